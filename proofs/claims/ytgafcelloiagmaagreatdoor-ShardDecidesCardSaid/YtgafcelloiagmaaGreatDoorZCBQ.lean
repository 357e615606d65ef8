/- A text of this proof. -/
import Derived.Test.YtgafcelloiagmaaGreatDoorZCBH
import Derived.Test.YtgafcelloiagmaaGreatDoorZCBP
set_option maxHeartbeats 16000000
set_option linter.unusedSimpArgs false
set_option linter.unusedVariables false
set_option maxRecDepth 20000
namespace Go.Proofs.YtgafcelloiagmaaGreatDoor
open Go.Proofs.Tryz
section
open Go.RowKit Pm
attribute [local irreducible] wpStill
theorem KR(q a x d:Nat)(h:bQ)(w:World)(hS:iR w q a x d h)(hn:h.hs.length<=100000):
  Calls prog 16 #[.pointer (some ⟨q,0,none⟩)] w λe w'=>∃v,e=.returned v/\KS w h.hs v w':=by
 obtain⟨vn,vt,vr,vh,vw,vs,hP⟩:=hS.ex;have hc:=lI vh h.hs w hP.v.hh hn;have c3:=hP.cell 3 (v:=vh) rfl;obtain⟨ao,cap,rfl⟩:=hP.v.hh.shape;generalize h.hs.length=n at *;have HC:=zI hc;clear hc hS hP hn;go_enter func16,ntmps16
 go_wp2_with fail
 refine HC.mono ?_;rintro e w1⟨v',rfl,hf⟩;have HF:=zI hf;clear hf;go_wp2;go_ret;exact⟨_,rfl,HF.out⟩
theorem Ha(q a x d:Nat)(h:bQ)(w:World)(hS:iR w q a x d h)(hn:h.rg.length<=100000):
  Calls prog 21 #[.pointer (some ⟨q,0,none⟩)] w λe w'=>∃v,e=.returned v/\Cr w h.rg v w':=by
 obtain⟨vn,vt,vr,vh,vw,vs,hP⟩:=hS.ex;have hc:=jX vr h.rg w hP.v.r hn;have c3:=hP.cell 2 (v:=vr) rfl;obtain⟨ao,cap,rfl⟩:=hP.v.r.shape;generalize h.rg.length=n at *;have HC:=zI hc;clear hc hS hP hn;go_enter func21,ntmps21
 go_wp2_with fail
 refine HC.mono ?_;rintro e w1⟨v',rfl,hf⟩;have HF:=zI hf;clear hf;go_wp2;go_ret;exact⟨_,rfl,HF.out⟩
theorem Cs(q a x d:Nat)(h:bQ)(w:World)(hS:iR w q a x d h)(hn:h.st.nodes.length<=50000)(hm:h.st.turns.length<=50000):
  Calls prog 19 #[.pointer (some ⟨q,0,none⟩)] w (Te h.st w):=by
 obtain⟨vn,vt,vr,vh,vw,vs,hP⟩:=hS.ex;have f1:=aa w (.cells #[.slice none 0 0,.slice none 0 0] aM);have r1:=heap_alloc_new w (.cells #[.slice none 0 0,.slice none 0 0] aM);have hc:=ly vn vt h.st (w.alloc (.cells #[.slice none 0 0,.slice none 0 0] aM)) (hP.v.n.af f1) (hP.v.t.af f1) hn hm;have c0:=(hP.af f1).cell 0 (v:=vn) rfl;have c1:=(hP.af f1).cell 1 (v:=vt) rfl;obtain⟨a1,k1,e1⟩:=hP.v.n.shape;obtain⟨a2,k2,e2⟩:=hP.v.t.shape;generalize aR:h.st.nodes.length=n at *;generalize jE:h.st.turns.length=m at *;subst e1 e2;have HL:=zI (yI aR jE);clear aR jE;have HC:=zI (yI hc (yI f1 r1));clear hc hS hP hn hm f1 r1;go_enter func19,ntmps19
 go_wp2_with fail
 refine HC.1.mono ?_;rintro e w1 hR;obtain⟨u1,u2,rfl,h1,h2⟩:=hR.ex;have HR:=zI (yI (hR.fp.heap HC.2.2 id) (yI (HC.2.1.then hR.fp) (yI h1 h2)));obtain⟨a3,k3,e3⟩:=h1.shape;obtain⟨a4,k4,e4⟩:=h2.shape;rw[HL.1]at e3;rw[HL.2]at e4;subst e3 e4;clear hR h1 h2 HC c0 c1;go_wp2_with (refine ak rfl aM _ _ rfl _ _ rfl rfl (aA dD (cs:=#[.slice a3 n k3,.slice a4 m k4]) HR.1 rfl rfl (by intro u hu;simp only[List.mem_cons,List.not_mem_nil,or_false]at hu;rcases hu with rfl|rfl<;>rfl)) ?_)
 have G:=av w1 w.heap.size #[.slice a3 n k3,.slice a4 m k4]
 have hB:Bl (λk=>k=w.heap.size) w1 (w1.setRow w.heap.size #[.slice a3 n k3,.slice a4 m k4]):=⟨G,λk hk=>by
  have hk:k=w.heap.size:=hk;subst hk;exact .inr ⟨_,_,HR.1,jk (by decide) (by decide) (by intro u hu;simp only[List.mem_cons,List.not_mem_nil,or_false]at hu;rcases hu with rfl|rfl<;>exact .inl ⟨_,_,_,rfl⟩)⟩⟩
 obtain⟨t0,t1⟩:=aI (aj (cs:=#[.slice a3 n k3,.slice a4 m k4]) HR.1);have HE:=zI (yI (HR.2.2.1.off hB) (yI (HR.2.2.2.off hB) (HR.2.1.trans G (λk hk=>.inr (by have hk:k=w.heap.size:=hk;omega)))))
 generalize World.setRow w1 w.heap.size #[.slice a3 n k3,.slice a4 m k4]=wz at *;clear G hB;go_wp2;refine bodyPost_ret (v:=.agg #[.slice a3 n k3,.slice a4 m k4]) (by simp[results,results19,go_sem,t0,t1]) rfl ?_
 exact⟨⟨_,_,rfl,HE.1,HE.2.1⟩,HE.2.2⟩
structure KT(s:St)(l:List Hl)(w:World)(e:Ending)(w':World):Prop where
 VE:(¬(dh s/\kT l)/\e=.returned (.pointer none))\/(dh s/\kT l)/\∃q a x d,e=.returned (.pointer (some ⟨q,0,none⟩))/\iR w' q a x d ⟨s,l,[],⟨[],[]⟩,[],[],[]⟩/\∀k,Bk q a x d k->w.heap.size<=k
 fp:Fp ab w w'
theorem Yf(w:World)(s:St)(l:List Hl)(vn vt vr:Value)(h1:Ns w vn s.nodes)(h2:Ts w vt s.turns)(h3:di w vr l):
  mg ((((w.alloc (.map #[] 0)).alloc (.map #[] 0)).alloc (.map #[] 0)).alloc (.cells (xg vn vt vr nS nS nS w.heap.size (w.heap.size+1) (w.heap.size+1+1)) sd)) (w.heap.size+1+1+1) w.heap.size (w.heap.size+1) (w.heap.size+1+1) vn vt vr nS nS nS ⟨s,l,[],⟨[],[]⟩,[],[],[]⟩/\
   Fp ab w ((((w.alloc (.map #[] 0)).alloc (.map #[] 0)).alloc (.map #[] 0)).alloc (.cells (xg vn vt vr nS nS nS w.heap.size (w.heap.size+1) (w.heap.size+1+1)) sd)):=by
 obtain⟨w1,gV⟩:∃w1,w1=w.alloc (.map #[] 0):=⟨_,rfl⟩;have z1:w1.heap.size=w.heap.size+1:=by rw[gV];simp
 have m1:=pI.made EL w;have f1:=aa w (.map #[] 0);rw[<-gV]at m1 f1|-;obtain⟨w2,su⟩:∃w2,w2=w1.alloc (.map #[] 0):=⟨_,rfl⟩;have z2:w2.heap.size=w.heap.size+1+1:=by rw[su];simp[z1]
 have m2:=pI.made OC w1;have f2:=aa w1 (.map #[] 0);rw[<-su]at m2 f2|-;rw[z1]at m2;obtain⟨w3,EM⟩:∃w3,w3=w2.alloc (.map #[] 0):=⟨_,rfl⟩;have z3:w3.heap.size=w.heap.size+1+1+1:=by rw[EM];simp[z2]
 have m3:=pI.made (λ_ v (y:Bool×Int)=>v=Su y) w2
 have f3:=aa w2 (.map #[] 0);rw[<-EM]at m3 f3|-;rw[z2]at m3;have f4:=aa w3 (.cells (xg vn vt vr nS nS nS w.heap.size (w.heap.size+1) (w.heap.size+1+1)) sd);have r4:=heap_alloc_new w3 (.cells (xg vn vt vr nS nS nS w.heap.size (w.heap.size+1) (w.heap.size+1+1)) sd);rw[z3]at r4;have f:=((f1.then f2).then f3).then f4;exact⟨⟨r4,⟨h1.af f,h2.af f,h3.af f,di.nil _,yZ.nil _⟩,m1.keep ((f2.then f3).then f4) id (λ_ _ h=>h.af ((f2.then f3).then f4)),m2.keep (f3.then f4) id (λ_ _ h=>h.off (f3.then f4).bl),m3.keep f4 id (λ_ _ h=>h),by omega,by omega,by omega⟩,f⟩
theorem M8(v vl:Value)(s:St)(l:List Hl)(w:World)(hv:tf w v s)(hs:Sp s.nodes)(hn:s.nodes.length<=50000)(aN:∀t∈s.turns,t.dir.length<=1000000)(hm:s.turns.length<=50000)(hl:di w vl l)(ES:∀x∈l,x.d.length<=1000000)(wu:l.length<=100000):
  Calls prog 12 #[v,vl] w (KT s l w):=by
 obtain⟨vn,vt,rfl,h1,h2⟩:=hv.ex;have f0:=aa w (.cells #[vn,vt] aM);have r0:=heap_alloc_new w (.cells #[vn,vt] aM);have c1:=λW (f:Fp ab w W)=>j4 (.agg #[vn,vt]) s W (hv.af f) hs (by omega) aN (by omega)
 have c2:=λW (f:Fp ab w W)=>nB vl l W (hl.af f) ES (by omega)
 have c3:=λW (f:Fp ab w W)=>ly vn vt s W (h1.af f) (h2.af f) hn hm
 have c4:=λW (f:Fp ab w W)=>jX vl l W (hl.af f) wu
 obtain⟨a1,k1,e1⟩:=h1.shape;obtain⟨a2,k2,e2⟩:=h2.shape;obtain⟨a3,k3,e3⟩:=hl.shape;generalize aR:s.nodes.length=n at *;generalize jE:s.turns.length=m at *;generalize Yg:l.length=z at *;subst e1 e2 e3;obtain⟨p1,QT⟩:∃b,dB s=b:=⟨_,rfl⟩;obtain⟨p2,oQ⟩:∃b,dO l=b:=⟨_,rfl⟩;rw[QT]at c1;rw[oQ]at c2;have HC:=zI (yI c1 (yI c2 (yI c3 c4)));have HL:=zI (yI QT (yI oQ (yI f0 r0)));have ab4:=@run_makeMap prog;obtain⟨b0,b1⟩:=aI r0;clear c1 c2 c3 c4 hv hs hn aN hm hl ES wu h1 h2 aR jE Yg QT oQ f0 r0;go_enter func12,ntmps12
 go_wp2_with fail
 refine(HC.1 _ HL.2.2.1).mono ?_;rintro e w1⟨rfl,f1⟩;have F1:=zI (HL.2.2.1.then f1);have R1:=zI (f1.heap HL.2.2.2 id);clear f1 b0 b1;cases p1 with
 |false=>
  have HE:=zI (show KT s l w (.returned (.pointer none)) w1 from⟨.inl ⟨(λh=>by have:=HL.1;rw[ei h.1]at this;cases this),rfl⟩,F1.out⟩)
  go_wp2;go_ret;exact HE.out
 |true=>?_
 go_wp2_with fail
 refine(HC.2.1 _ F1.out).mono ?_;rintro e w2⟨rfl,f2⟩;have F2:=zI (F1.then f2);have R2:=zI (f2.heap R1 id);clear f2;cases p2 with
 |false=>
  have HE:=zI (show KT s l w (.returned (.pointer none)) w2 from⟨.inl ⟨(λh=>by have:=HL.2.1;rw[(dA l).2 h.2]at this;cases this),rfl⟩,F2.out⟩)
  go_wp2;go_ret;exact HE.out
 |true=>?_
 obtain⟨b0,b1⟩:=aI R2.out;go_wp2_with fail
 refine(HC.2.2.1 _ F2.out).mono ?_;rintro e w3 lz;obtain⟨u1,u2,rfl,g1,g2⟩:=lz.ex;have F3:=zI (F2.then lz.fp);have H3:=zI (yI g1 g2);clear lz g1 g2 b0 b1;go_wp2_with fail
 refine(HC.2.2.2 _ F3.out).mono ?_;rintro e w4⟨u3,rfl,gu⟩;have F4:=zI (F3.then gu.fp);have H4:=zI (yI (H3.1.af gu.fp) (yI (H3.2.af gu.fp) gu.own.ns));clear gu H3;obtain⟨a5,k5,rfl⟩:=H4.1.shape;obtain⟨a6,k6,rfl⟩:=H4.2.1.shape;obtain⟨a7,k7,rfl⟩:=H4.2.2.shape
 have HE:=zI (show KT s l w (.returned (.pointer (some ⟨w4.heap.size+1+1+1,0,none⟩))) ((((w4.alloc (.map #[] 0)).alloc (.map #[] 0)).alloc (.map #[] 0)).alloc (.cells (xg (.slice a5 s.nodes.length k5) (.slice a6 s.turns.length k6) (.slice a7 l.length k7) nS nS nS w4.heap.size (w4.heap.size+1) (w4.heap.size+1+1)) sd)) from by
  obtain⟨hP,hf⟩:=Yf w4 s l _ _ _ H4.1 H4.2.1 H4.2.2;refine⟨.inr ⟨⟨?_,(dA l).1 HL.2.1⟩,_,_,_,_,rfl,⟨_,_,_,_,_,_,hP⟩,λk hk=>?_⟩,F4.then hf⟩
  ·have:=HL.1
   rwa[fm]at this
  have:=F4.size;rcases hk with rfl|rfl|rfl|rfl<;>omega)
 go_wp2;go_ret;exact HE.out
end
section
open Go.RowKit Pm
theorem DC{lo l2 N pb kb:Nat}{vw:Value}{ws:List Wt}{ss:List Se}{kd:Int}{p:Bs}(hk:1<=kd/\kd<=3)(hp:(split p).isSome=true)(hw:RW ws)(hs:RS ss)(hn:ws.length<=64)(hm:ss.length<=30000)(cC:p.length<=1000000)(hwp:Sb ws):
  SN lo l2 ws (.func (.func 284) #[] #[.pointer (some ⟨pb,0,none⟩),.pointer (some ⟨N,0,none⟩),.pointer (some ⟨kb,0,none⟩)]) (QM kd p ws ss) (λi W=>GO lo l2 N pb kb vw ws ss kd p i W) where
 ex:=⟨_,_,_,rfl,enters_of func284 (by kernel_rfl) rfl,λi hi W hI bq=>KE i hi hI (uN hk hp hw.1 hs i (by omega)) (by have:=Hb kd p ws ss i (by omega);omega) cC (hwp _ (List.getElem_mem hi)) ((pJ _).1 (hw.1 _ (List.getElem_mem hi))).1 bq⟩
 still:=λi W W' hI f=>hI.still f
theorem DD(kd:Int)(p:Bs)(ws:List Wt)(ss:List Se)(i:Nat)(h:i<ws.length):(cu kd p (ws.take (i+1)) ss).1=if QM kd p ws ss i=true then (cu kd p (ws.take i) ss).1 else (cu kd p (ws.take i) ss).1++[ws[i]]:=by
 rw[gq _ _ _ _ i h];unfold EN QM;rw[dif_pos h];by_cases ho:xy p ws[i]=true
 ·rw[if_pos ho,if_pos ho]
  cases (mh (sf (cu kd p (ws.take i) ss).2 ws[i].s) ws[i] kd p).2<;>simp
 rw[if_neg ho,if_neg ho];simp
theorem Pa(v:Value)(d:Wd)(kd:Int)(p:Bs)(w:World)(hv:yZ w v d)(hz:Sa d)(cC:p.length<=1000000):
  Calls prog 238 #[v,.int .i64 kd,.string (B p)] w (Yd (gW d kd p).1 (gW d kd p).2 w):=by
 obtain⟨vw,vs,rfl,hw,hs⟩:=hv.ex;have iL:=λW (f:Fp ab w W)=>Ky _ d W (hv.af f) hz
 have dN:=λW (f:Fp ab w W)=>KI _ d W (hv.af f) hz
 have eQ:=λW (f:Fp ab w W) (q:Wt->Bool) (fv:Value) (hq:Gj ab W fv q)=>oA vw fv d.ws q W (hw.af f) hz.wp hq (by have:=hz.w;omega)
 have Pb:=λW (f:Fp ab w W) (ha:d.ss.Pairwise (λa b=>a.num<b.num)) (k:Int)=>B4 vs d.ss k W (hs.af f) ha (by have:=hz.s;omega)
 obtain⟨aw,cw,rfl⟩:=hw.shape;obtain⟨at_,cs,rfl⟩:=hs.shape;have jS:=hz.w;have GH:=hz.s;obtain⟨br,aK⟩:∃b,eF d=b:=⟨_,rfl⟩;rw[aK]at iL;obtain⟨n,hn⟩:∃n,n=d.ws.length:=⟨_,rfl⟩;obtain⟨m,hm⟩:∃n,n=d.ss.length:=⟨_,rfl⟩;rw[<-hn]at hw jS iL dN eQ|-;rw[<-hm]at hs GH iL dN Pb|-;have HH:=zI (yI hn (yI hm (yI aK (yI hz (yI hw hs)))));have Pf:=zI iL;have oX:=zI dN;have ab5:=zI eQ;have ab6:=zI Pb;have Tj:gW d kd p=if br=true/\(1<=kd/\kd<=3)/\(split p).isSome=true then (⟨(cu kd p d.ws d.ss).1,(cu kd p d.ws d.ss).2⟩,0) else (⟨[],[]⟩,1):=by unfold gW;rw[aK]
 have Pg:=λW=>cE p W (cH cC (by omega))
 obtain⟨D,hD⟩:∃D,D=gW d kd p:=⟨_,rfl⟩;rw[<-hD];rw[Tj]at hD;obtain⟨b2,bW⟩:∃b,(split p).isSome=b:=⟨_,rfl⟩;rw[bW]at hD Pg;have HD:=zI hD;have HB:=zI (yI bW cC);have M9:=zI Pg;have f0:=(Fp.then (Fp.then (Fp.then (aa w (.cells #[.slice aw n cw,.slice at_ m cs] TD)) (aa _ (.cells #[.int .i64 kd] 3))) (aa _ (.cells #[.string (B p)] 9))) (aa _ (.cells #[.slice none 0 0,.slice none 0 0] TD)));have r0:=((Fp.then (Fp.then (aa (World.alloc w (.cells #[.slice aw n cw,.slice at_ m cs] TD)) (.cells #[.int .i64 kd] 3)) (aa _ (.cells #[.string (B p)] 9))) (aa _ (.cells #[.slice none 0 0,.slice none 0 0] TD)))).heap (heap_alloc_new w (.cells #[.slice aw n cw,.slice at_ m cs] TD)) id;have r1:=((Fp.then (aa (World.alloc (World.alloc w (.cells #[.slice aw n cw,.slice at_ m cs] TD)) (.cells #[.int .i64 kd] 3)) (.cells #[.string (B p)] 9)) (aa _ (.cells #[.slice none 0 0,.slice none 0 0] TD)))).heap (heap_alloc_new (World.alloc w (.cells #[.slice aw n cw,.slice at_ m cs] TD)) (.cells #[.int .i64 kd] 3)) id
 have Xv:((World.alloc w (.cells #[.slice aw n cw,.slice at_ m cs] TD))).heap.size=w.heap.size+1:=by simp
 rw[Xv]at r1;have r2:=((aa (World.alloc (World.alloc (World.alloc w (.cells #[.slice aw n cw,.slice at_ m cs] TD)) (.cells #[.int .i64 kd] 3)) (.cells #[.string (B p)] 9)) (.cells #[.slice none 0 0,.slice none 0 0] TD))).heap (heap_alloc_new (World.alloc (World.alloc w (.cells #[.slice aw n cw,.slice at_ m cs] TD)) (.cells #[.int .i64 kd] 3)) (.cells #[.string (B p)] 9)) id;have sz2:((World.alloc (World.alloc w (.cells #[.slice aw n cw,.slice at_ m cs] TD)) (.cells #[.int .i64 kd] 3))).heap.size=w.heap.size+1+1:=by simp
 rw[sz2]at r2;have r3:=heap_alloc_new (World.alloc (World.alloc (World.alloc w (.cells #[.slice aw n cw,.slice at_ m cs] TD)) (.cells #[.int .i64 kd] 3)) (.cells #[.string (B p)] 9)) (.cells #[.slice none 0 0,.slice none 0 0] TD);have sz3:((World.alloc (World.alloc (World.alloc w (.cells #[.slice aw n cw,.slice at_ m cs] TD)) (.cells #[.int .i64 kd] 3)) (.cells #[.string (B p)] 9))).heap.size=w.heap.size+1+1+1:=by simp
 rw[sz3]at r3;have K0:=zI (Kp.and (Kp.fp f0) (Kp.and (Kp.row r0) (Kp.and (Kp.row r1) (Kp.and (Kp.row r2) (Kp.row r3)))));have rI:=zI (show((World.alloc (World.alloc (World.alloc (World.alloc w (.cells #[.slice aw n cw,.slice at_ m cs] TD)) (.cells #[.int .i64 kd] 3)) (.cells #[.string (B p)] 9)) (.cells #[.slice none 0 0,.slice none 0 0] TD))).heap.size=w.heap.size+1+1+1+1 by simp)
 clear f0 r0 r1 r2 r3 Xv sz2 sz3;clear hD hv hz hw hs iL dN eQ Pb hn hm aK bW Tj Pg cC;obtain⟨p0,p1⟩:=aI K0.now.2.1;go_enter func238,ntmps238
 go_wp2_with fail
 generalize dw:(World.alloc (World.alloc (World.alloc (World.alloc w (.cells #[.slice aw n cw,.slice at_ m cs] TD)) (.cells #[.int .i64 kd] 3)) (.cells #[.string (B p)] 9)) (.cells #[.slice none 0 0,.slice none 0 0] TD))=W0 at *;clear dw;refine(Pf _ K0.now.1).mono ?_;rintro e w1⟨rfl,hf⟩;have K1:=zI (K0.later hf);have dQ:=zI (show w.heap.size+1+1+1+1<=w1.heap.size by have:=rI.out;have:=hf.size;omega)
 clear hf p0 p1;have kc:=tD K1.now.2.2.1;cases br with
 |false=>
  obtain⟨r0,r1,z0,z2,y1,z1,hz,Ct⟩:=kh (K1.now.2.2.2.2) nS nS;have HZ:=zI (yI hz ((K1.now.1).trans Ct (λj hj=>.inr (by have hj:j=w.heap.size+1+1+1:=hj;omega))))
  clear hz Ct;go_wp2_with fail
  generalize (World.setCell (World.setCell w1 _ _) _ _)=wz at *;obtain⟨s0,s1⟩:=aI HZ.1;refine bodyPost_ret (v:=.tuple #[.agg #[.slice none 0 0,.slice none 0 0],.int .i64 1]) (by simp[results,results238,go_sem,s0,s1]) rfl ?_
  rw[show D=(⟨[],[]⟩,1) from by rw[HD.out];first|(simp;done)|(rw[if_neg (λh=>by simp at h;omega)])]
  exact⟨⟨_,_,rfl,lM.nil _,yY.nil _⟩,HZ.2⟩
 |true=>?_
 by_cases vR:kd<1
 ·have t1:(kd<1)=True:=eq_true vR
  have hnk:¬(1<=kd):=by omega
  obtain⟨r0,r1,z0,z2,y1,z1,hz,Ct⟩:=kh (K1.now.2.2.2.2) nS nS;have HZ:=zI (yI hz ((K1.now.1).trans Ct (λj hj=>.inr (by have hj:j=w.heap.size+1+1+1:=hj;omega))))
  clear hz Ct;go_wp2_with fail
  generalize (World.setCell (World.setCell w1 _ _) _ _)=wz at *;obtain⟨s0,s1⟩:=aI HZ.1;refine bodyPost_ret (v:=.tuple #[.agg #[.slice none 0 0,.slice none 0 0],.int .i64 1]) (by simp[results,results238,go_sem,s0,s1]) rfl ?_
  rw[show D=(⟨[],[]⟩,1) from by rw[HD.out];first|(simp;done)|(rw[if_neg (λh=>by simp at h;omega)])]
  exact⟨⟨_,_,rfl,lM.nil _,yY.nil _⟩,HZ.2⟩
 have t1:(kd<1)=False:=eq_false vR;by_cases OK:3<kd
 ·have t2:(3<kd)=True:=eq_true OK
  have hnk:¬(kd<=3):=by omega
  obtain⟨r0,r1,z0,z2,y1,z1,hz,Ct⟩:=kh (K1.now.2.2.2.2) nS nS;have HZ:=zI (yI hz ((K1.now.1).trans Ct (λj hj=>.inr (by have hj:j=w.heap.size+1+1+1:=hj;omega))))
  clear hz Ct;go_wp2_with fail
  generalize (World.setCell (World.setCell w1 _ _) _ _)=wz at *;obtain⟨s0,s1⟩:=aI HZ.1;refine bodyPost_ret (v:=.tuple #[.agg #[.slice none 0 0,.slice none 0 0],.int .i64 1]) (by simp[results,results238,go_sem,s0,s1]) rfl ?_
  rw[show D=(⟨[],[]⟩,1) from by rw[HD.out];first|(simp;done)|(rw[if_neg (λh=>by simp at h;omega)])]
  exact⟨⟨_,_,rfl,lM.nil _,yY.nil _⟩,HZ.2⟩
 have t2:(3<kd)=False:=eq_false OK;have sc:=tD K1.now.2.2.2.1;go_wp2_with fail
 refine(M9 _).mono ?_;rintro e w4⟨rfl,hf⟩;have K4:=zI (K1.later hf.fp);have EI:=zI (show w.heap.size+1+1+1+1<=w4.heap.size from Nat.le_trans dQ hf.fp.size);clear hf kc sc;cases b2 with
 |false=>
  obtain⟨r0,r1,z0,z2,y1,z1,hz,Ct⟩:=kh (K4.now.2.2.2.2) nS nS;have HZ:=zI (yI hz ((K4.now.1).trans Ct (λj hj=>.inr (by have hj:j=w.heap.size+1+1+1:=hj;omega))))
  clear hz Ct;go_wp2_with fail
  generalize (World.setCell (World.setCell w4 _ _) _ _)=wz at *;obtain⟨s0,s1⟩:=aI HZ.1;refine bodyPost_ret (v:=.tuple #[.agg #[.slice none 0 0,.slice none 0 0],.int .i64 1]) (by simp[results,results238,go_sem,s0,s1]) rfl ?_
  rw[show D=(⟨[],[]⟩,1) from by rw[HD.out];first|(simp;done)|(rw[if_neg (λh=>by simp at h;omega)])]
  exact⟨⟨_,_,rfl,lM.nil _,yY.nil _⟩,HZ.2⟩
 |true=>?_
 obtain⟨p0,p1⟩:=aI K4.now.2.1;go_wp2_with fail
 refine(oX _ K4.now.1).mono ?_;rintro e w5 hC;obtain⟨ki,vs5,L,rfl,eN,fG⟩:=hC.ex;have K5:=zI (K4.later hC.fp);obtain⟨a5,c5,rfl⟩:∃a c,ki=.slice a n c:=by rw[HH.1];exact eN.jj.ns.shape
 obtain⟨d5,e5,rfl⟩:∃a c,vs5=.slice a m c:=by rw[HH.2.1,<-fG,List.length_map];exact eN.fg.ns.shape
 have Tk:=aa w5 (.cells #[.slice a5 n c5,.slice d5 m e5] TD);have QU:Wk w4.heap.size w5.heap.size (.slice a5 n c5) (.slice d5 m e5) d.ws L (w5.alloc (.cells #[.slice a5 n c5,.slice d5 m e5] TD)):=⟨heap_alloc_new w5 _,hC.fp.size,eN.af Tk⟩;have K6:=zI (Kp.and (Kp.fp Tk) (K5.later Tk));have HWK:=zI (yI QU fG);have Vq:=zI (show w4.heap.size<=(w5.alloc (.cells #[.slice a5 n c5,.slice d5 m e5] TD)).heap.size from Nat.le_trans hC.fp.size Tk.size);have Fi:1<=kd/\kd<=3:=⟨by omega,by omega⟩
 have iL:=(gK d).1 HH.2.2.1
 have hI0:GO w4.heap.size (w5.alloc (.cells #[.slice a5 n c5,.slice d5 m e5] TD)).heap.size w5.heap.size (w.heap.size+1+1) (w.heap.size+1) (.slice a5 n c5) d.ws d.ss kd p 0 (w5.alloc (.cells #[.slice a5 n c5,.slice d5 m e5] TD)):=
  ⟨⟨_,L,QU,by rw[List.take_zero];exact fG⟩,K6.now.2.2.2.2.1,K6.now.2.2.2.1,QU.cl.jj.ltW⟩
 have Oi:=Dx w4.heap.size (.slice a5 n c5) _ d.ws _ _ (λi=>(cu kd p (d.ws.take i) d.ss).1) _ QU.cl.jj (DC (N:=w5.heap.size) Fi HB.1 iL.2.1 iL.2.2 iL.1 HH.2.2.2.1.s HB.2 HH.2.2.2.1.wp) hI0 (by simp[cu]) (DD kd p d.ws d.ss) (λi hi=>Nat.le_trans (qx kd p d.ws d.ss i hi).length_le (by rw[List.length_take];have:=HH.1;omega)) (by have:=HH.1;omega) Vq.out
 have HWO:=zI Oi;obtain⟨u0,u1⟩:=aI QU.dR;have HKK:=zI Fi;clear hC eN fG Tk QU p0 p1 hI0 Oi Fi iL;go_wp2_with fail
 refine HWO.mono ?_;rintro e w7 Tl;obtain⟨v7,rfl,Yh⟩:=Tl.ex;obtain⟨vs7,L7,Hc,hL7⟩:=Tl.inv.ex;obtain⟨g1,g3⟩:=Hc.Ye Yh;obtain⟨a7,m7,c7,rfl⟩:∃a m c,v7=.slice a m c:=by obtain⟨a,c,e⟩:=Yh.ns.shape;exact⟨a,_,c,e⟩
 obtain⟨a8,m8,c8,rfl⟩:∃a m c,vs7=.slice a m c:=by obtain⟨a,c,e⟩:=Hc.cl.fg.ns.shape;exact⟨a,_,c,e⟩
 have SJ:Fp ab w (World.setCell w7 ⟨w5.heap.size,0,none⟩ (.slice a7 m7 c7)):=(K6.now.2.1.trans Tl.fp (λk hk=>.inr (by have:=EI.out;omega))).trans g3 (λk hk=>.inr (by have:=EI.out;omega))
 have lS:(World.setCell w7 ⟨w5.heap.size,0,none⟩ (.slice a7 m7 c7)).heap[w.heap.size+1+1+1]?=some (.cells #[.slice none 0 0,.slice none 0 0] TD (0,0)):=Fp.heap g3 (Fp.heap Tl.fp K6.now.2.2.2.2.2 (λe=>by have:=EI.out;omega)) (λe=>by have:=EI.out;omega)
 obtain⟨x0,x1⟩:=aI Hc.dR;have x2:=ae Hc.dR 0;obtain⟨t0,t3⟩:=aI g1.dR;have K9:=zI (yI SJ (yI lS hL7));have HF:=zI (g1.cl.KH lS (.slice a7 m7 c7) (.slice a8 m8 c8));clear Tl Yh g1 g3 SJ lS u0 u1 Hc hL7;obtain⟨r0,r1,z0,z2,y1,z1,hz,Ct⟩:=kh (K9.2.1) (.slice a7 m7 c7) (.slice a8 m8 c8);have HZ:=zI (yI hz ((K9.1).trans Ct (λj hj=>.inr (by have hj:j=w.heap.size+1+1+1:=hj;omega))))
 clear hz Ct;go_wp2_with fail
 generalize (World.setCell (World.setCell (World.setCell w7 _ _) _ _) _ _)=wz at *;obtain⟨s0,s1⟩:=aI HZ.1;refine bodyPost_ret (v:=.tuple #[.agg #[.slice a7 m7 c7,.slice a8 m8 c8],.int .i64 0]) (by simp[results,results238,go_sem,s0,s1]) rfl ?_
 rw[show D=(⟨(cu kd p d.ws d.ss).1,(cu kd p d.ws d.ss).2⟩,0) from by rw[HD.out];simp[HKK.out]]
 have Gm:=HF.jj.ns;have hl:=K9.2.2;simp only[List.take_length]at Gm hl
 exact⟨⟨_,_,rfl,Gm,⟨L7,hl,HF.fg.ns,λy hy=>(HF.iu y hy).ns⟩⟩,HZ.2⟩
attribute [local irreducible] wpStill
structure Ph(q a x d:Nat)(g:bQ)(w:World)(e:Ending)(w':World):Prop where
 e:e=.returned (.tuple #[])
 sh:iR w' q a x d g
 fp:Fp (Bk q a x d) w w'
theorem tG(q a x d:Nat)(h:bQ)(k:Int)(p:Bs)(bh:Nat)(w:World)(hS:iR w q a x d h)(hb:w.cell? ⟨bh,0,none⟩=some (.pointer (some ⟨q,0,none⟩)))(hz:Sa h.wd)(hp:p.length<=1000000):
  Calls prog 237 #[.int .i64 k,.string (B p),.pointer (some ⟨bh,0,none⟩)] w (Ph q a x d { h with wd:=iJ h.wd k p } w):=by
 obtain⟨vn,vt,vr,vh,vw,vs,hP⟩:=hS.ex;have hc:=Pa (.agg #[vw,vs]) h.wd k p w hP.v.w hz hp;have c4:=hP.cell 4 (v:=vw) rfl;have c5:=hP.cell 5 (v:=vs) rfl;have ht:=Gv h k p;generalize (gW h.wd k p).1=dd at *;generalize (gW h.wd k p).2=er at *;have HP:=zI (yI hS (yI ht hb));have HC:=zI hc;obtain⟨⟨a1,n1,e1,rfl⟩,⟨a2,n2,e2,rfl⟩⟩:=yI (hP.v.eL vw (by simp)) (hP.v.eL vs (by simp))
 clear hS hc hP hz hp ht;go_enter func237,ntmps237
 go_wp2_with fail
 refine HC.mono ?_;rintro e w1 hR;obtain⟨u1,u2,rfl,g1,g2⟩:=hR.ex;have F1:=zI hR.fp;have W1:=zI (show yZ w1 (.agg #[u1,u2]) dd from⟨_,_,rfl,g1,g2⟩);obtain⟨a3,k3,rfl⟩:=g1.shape;obtain⟨a4,k4,rfl⟩:=g2.shape;have bO:=F1.cell HP.2.2 id;generalize dd.ws.length=m3 at *;generalize dd.ss.length=m4 at *;have S1:=zI (HP.1.af F1.out);clear hR g1 g2 c4 c5 hb;have r2:=heap_alloc_new w1 (.cells #[.slice a3 m3 k3,.slice a4 m4 k4] TD);have f2:=aa w1 (.cells #[.slice a3 m3 k3,.slice a4 m4 k4] TD);have bW:=f2.cell bO id;obtain⟨x0,x1⟩:=aI r2;have H2:=zI (yI (S1.af f2) (yI (W1.af f2) (F1.then f2)));clear r2 f2;go_wp2_with fail
 refine(Av q a x d _ _ dd er _ H2.1 H2.2.1).mono ?_;rintro e w3 lz;obtain⟨v3,rfl,_⟩:=lz.xF;have HE:=zI (show Ph q a x d { h with wd:=iJ h.wd k p } w (.returned (.tuple #[])) w3 from⟨rfl,by have:=lz.sh;rw[HP.2.1]at this;exact this,(H2.2.2.any).same lz.fp⟩)
 clear lz;go_wp2;go_end0
 exact HE.out
end
section
open Go.RowKit Pm
attribute [local irreducible] wpStill
structure KU(w:World)(q:Nat)(y:Pt)(r:dp)(nv:Value)(W:World):Prop where
 hb:W.heap[w.heap.size]?=some (.cells #[.pointer (some ⟨q,0,none⟩)] 29 (0,0))
 pb:W.heap[w.heap.size+1]?=some (.cells #[.int .i64 y.kind,.string (B y.dir),.string (B y.path),.string (B y.data),.int .i64 y.aX,.int .i64 y.own,.bool y.turns] TP (0,0))
 rb:W.heap[w.heap.size+1+1]?=some (.cells #[.int .i64 r.err,.string (B r.path),.string (B r.data),.int .i64 r.aX,nv] TR (0,0))
theorem KU.made(w:World)(q:Nat)(y:Pt)(r:dp)(nv:Value):KU w q y r nv (((((w.alloc (.cells #[.pointer (some ⟨q,0,none⟩)] 29))).alloc (.cells #[.int .i64 y.kind,.string (B y.dir),.string (B y.path),.string (B y.data),.int .i64 y.aX,.int .i64 y.own,.bool y.turns] TP))).alloc (.cells #[.int .i64 r.err,.string (B r.path),.string (B r.data),.int .i64 r.aX,nv] TR))/\Fp ab w (((((w.alloc (.cells #[.pointer (some ⟨q,0,none⟩)] 29))).alloc (.cells #[.int .i64 y.kind,.string (B y.dir),.string (B y.path),.string (B y.data),.int .i64 y.aX,.int .i64 y.own,.bool y.turns] TP))).alloc (.cells #[.int .i64 r.err,.string (B r.path),.string (B r.data),.int .i64 r.aX,nv] TR)):=by
 obtain⟨w1,gV⟩:∃w1,w1=w.alloc (.cells #[.pointer (some ⟨q,0,none⟩)] 29):=⟨_,rfl⟩;have z1:w1.heap.size=w.heap.size+1:=by rw[gV];simp
 have f1:=aa w (.cells #[.pointer (some ⟨q,0,none⟩)] 29);have r1:=heap_alloc_new w (.cells #[.pointer (some ⟨q,0,none⟩)] 29);rw[<-gV]at f1 r1|-;obtain⟨w2,su⟩:∃w2,w2=w1.alloc (.cells #[.int .i64 y.kind,.string (B y.dir),.string (B y.path),.string (B y.data),.int .i64 y.aX,.int .i64 y.own,.bool y.turns] TP):=⟨_,rfl⟩;have z2:w2.heap.size=w.heap.size+1+1:=by rw[su];simp[z1]
 have f2:=aa w1 (.cells #[.int .i64 y.kind,.string (B y.dir),.string (B y.path),.string (B y.data),.int .i64 y.aX,.int .i64 y.own,.bool y.turns] TP);have r2:=heap_alloc_new w1 (.cells #[.int .i64 y.kind,.string (B y.dir),.string (B y.path),.string (B y.data),.int .i64 y.aX,.int .i64 y.own,.bool y.turns] TP);rw[<-su]at f2 r2|-;rw[z1]at r2;have f3:=aa w2 (.cells #[.int .i64 r.err,.string (B r.path),.string (B r.data),.int .i64 r.aX,nv] TR);have r3:=heap_alloc_new w2 (.cells #[.int .i64 r.err,.string (B r.path),.string (B r.data),.int .i64 r.aX,nv] TR);rw[z2]at r3;exact⟨⟨(f2.then f3).heap r1 id,f3.heap r2 id,r3⟩,(f1.then f2).then f3⟩
theorem KU.off{w:World}{q:Nat}{y:Pt}{r:dp}{nv:Value}{W W':World}(h:KU w q y r nv W){S:Nat->Prop}(f:Fp S W W')(hS:∀k,S k->k<w.heap.size):KU w q y r nv W':=
 ⟨f.heap h.hb (λk=>by have:=hS _ k;omega),f.heap h.pb (λk=>by have:=hS _ k;omega),f.heap h.rb (λk=>by have:=hS _ k;omega)⟩
structure Yi(w:World)(q a x d:Nat)(h:bQ)(y:Pt)(r:dp)(nv:Value)(B0:Nat)(i:Nat)(W:World):Prop where
 sh:iR W q a x d { h with wd:=(r.names.take i).foldl (λd n=>iJ d 2 ((join y.path n).getD [])) h.wd }
 ok:xi B0 ((r.names.take i).foldl (λd n=>iJ d 2 ((join y.path n).getD [])) h.wd)
 bx:KU w q y r nv W
 nm:∃lo,Own lo W nv r.names
 fp:Fp (Bk q a x d) w W
theorem Pj(q a x d:Nat)(h:bQ)(k:Int)(dir qH da:Bs)(ve ow:Int)(tu:Bool)(er:Int)(rp rd:Bs)(rv:Int)(oE:List Bs)(nv:Value)(B0:Nat)(w:World)(hS:iR w q a x d h)(hn:∃lo,Own lo w nv oE)(hz:xi B0 h.wd)(hB:B0<=30000)(hp:qH.length<=1000000)(hr:rp.length<=1000000)(Jm:∀p∈oE,p.length<=1000000)(wu:oE.length<=1000000)(Tm:∀p∈oE,((join qH p).getD []).length<=1000000):
  Calls prog 174 #[.pointer (some ⟨q,0,none⟩),fY ⟨k,dir,qH,da,ve,ow,tu⟩,.agg #[.int .i64 er,au rp,au rd,.int .i64 rv,nv]] w (Ph q a x d { h with wd:=eC h.wd ⟨k,dir,qH,da,ve,ow,tu⟩ ⟨er,rp,rd,rv,oE⟩ } w):=by
 have ay:=hS.lt;obtain⟨W3,vZ⟩:∃W3,W3=(((((w.alloc (.cells #[.pointer (some ⟨q,0,none⟩)] 29))).alloc (.cells #[.int .i64 k,.string (B dir),.string (B qH),.string (B da),.int .i64 ve,.int .i64 ow,.bool tu] TP))).alloc (.cells #[.int .i64 er,.string (B rp),.string (B rd),.int .i64 rv,nv] TR)):=⟨_,rfl⟩;have Yj:KU w q ⟨k,dir,qH,da,ve,ow,tu⟩ ⟨er,rp,rd,rv,oE⟩ nv W3:=by rw[vZ];exact(KU.made w q ⟨k,dir,qH,da,ve,ow,tu⟩ ⟨er,rp,rd,rv,oE⟩ nv).1
 have hF:Fp ab w W3:=by rw[vZ];exact(KU.made w q ⟨k,dir,qH,da,ve,ow,tu⟩ ⟨er,rp,rd,rv,oE⟩ nv).2
 have QV:∃lo,Own lo W3 nv oE:=by obtain⟨lo,hn⟩:=hn;exact⟨lo,hn.dU hF⟩
 have HX:=zI (yI ay (yI hF (yI (hS.af hF) (yI Yj (yI QV (yI hz (yI hB (yI Jm Tm))))))));have om:W3.cell? ⟨w.heap.size,0,none⟩=some (.pointer (some ⟨q,0,none⟩)):=by rw[cell_of_row _ _ _ _ _ _ Yj.hb];rfl
 have Tn:=λk p (cC:p.length<=1000000)=>tG q a x d h k p w.heap.size W3 (hS.af hF) om (hz.Z7 hB) cC
 have HN:=zI Tn;obtain⟨pl,cC⟩:∃g,g=eC h.wd ⟨k,dir,qH,da,ve,ow,tu⟩ ⟨er,rp,rd,rv,oE⟩:=⟨_,rfl⟩;rw[<-cC];have HD:=zI (show ∀e w',Ph q a x d { h with wd:=pl } W3 e w'->Ph q a x d { h with wd:=pl } w e w' from λe w' g=>⟨g.e,g.sh,(HX.2.1.any).same g.fp⟩)
 have wU:=zI cC;clear hS ay Yj hF hn hz hB Tn Jm Tm QV om cC;unfold fY au;simp only
 by_cases k2:k=2
 ·subst k2
  have jY:pl=iJ h.wd 1 rp:=by rw[wU.out];unfold eC;simp
  have HC:=zI (HN.out 1 rp hr);have mL:=zI jY;clear jY HN;go_enter func174,ntmps174
  go_wp2_with fail
  rw[<-vZ];clear vZ;refine HC.mono ?_;rintro e w4 g;have hE:=HD e w4 (by rw[mL.out];exact g)
  have e1:=g.e;subst e1;have HE:=zI hE;clear g hE;go_wp2;go_end0
  exact HE.out
 by_cases k3:k=3
 ·subst k3
  have jY:pl=iJ h.wd 2 qH:=by rw[wU.out];unfold eC;simp
  have HC:=zI (HN.out 2 qH hp);have mL:=zI jY;clear jY HN;go_enter func174,ntmps174
  go_wp2_with fail
  rw[<-vZ];clear vZ;refine HC.mono ?_;rintro e w4 g;have hE:=HD e w4 (by rw[mL.out];exact g)
  have e1:=g.e;subst e1;have HE:=zI hE;clear g hE;go_wp2;go_end0
  exact HE.out
 by_cases k5:k=5
 ·subst k5
  have jY:pl=iJ h.wd 3 qH:=by rw[wU.out];unfold eC;simp
  have HC:=zI (HN.out 3 qH hp);have mL:=zI jY;clear jY HN;go_enter func174,ntmps174
  go_wp2_with fail
  rw[<-vZ];clear vZ;refine HC.mono ?_;rintro e w4 g;have hE:=HD e w4 (by rw[mL.out];exact g)
  have e1:=g.e;subst e1;have HE:=zI hE;clear g hE;go_wp2;go_end0
  exact HE.out
 by_cases uU:k=10
 ·subst uU
  have jY:pl=oE.foldl (λd n=>iJ d 2 ((join qH n).getD [])) h.wd:=by rw[wU.out];unfold eC;simp
  obtain⟨lo1,Aw⟩:=HX.2.2.2.2.1;obtain⟨an,cn,rfl⟩:=Aw.shape;have aq:=λW (f:Fp (Bk q a x d) W3 W) (g:Own lo1 W (.slice an oE.length cn) oE)=>g.cells
  obtain⟨n,aR⟩:∃n,n=oE.length:=⟨_,rfl⟩;have vf:=zI aR;rw[<-aR]at vZ;rw[<-aR];have jS:n<=1000000:=by omega
  have mL:=zI jY;have H0:Hid (Yi w q a x d h ⟨10,dir,qH,da,ve,ow,tu⟩ ⟨er,rp,rd,rv,oE⟩ (.slice an n cn) B0 0 W3):=⟨HX.2.2.1,HX.2.2.2.2.2.1,by rw[aR];exact HX.2.2.2.1,⟨lo1,by rw[aR];exact Aw⟩,HX.2.1.any⟩
  clear jY HN Aw aq aR wu;go_enter func174,ntmps174
  go_wp2_with fail
  go_loopw [37] (λi wr=>∃m:Nat,m<=n/\i=.int .i64 m/\Hid (Yi w q a x d h ⟨10,dir,qH,da,ve,ow,tu⟩ ⟨er,rp,rd,rv,oE⟩ (.slice an n cn) B0 m wr)) (λi _=>n-(RowKit.intOf i).toNat)
  case atStart=>exact⟨0,Nat.zero_le _,rfl,by rw[<-vZ];exact H0⟩
  clear H0;obtain⟨m,hm,rfl,hR⟩:=hrel;by_cases ay:m<n
  ·have sv:m<oE.length:=by rw[<-vf.out];exact ay
   obtain⟨lo2,si⟩:=hR.nm;obtain⟨g,e,dN⟩:=si.cells wr ((Fp.refl ab wr).gr) m sv;subst e;obtain⟨_,_,p2,_⟩:=aH hR.bx.pb;have tC:=HX.2.2.2.2.2.2.2.2 _ (List.getElem_mem sv);have hj:=Hd qH oE[m] wr (cH hp (by omega)) (cH (HX.2.2.2.2.2.2.2.1 _ (List.getElem_mem sv)) (by omega))
   have aN:(oE.take (m+1)).foldl (λd n=>iJ d 2 ((join qH n).getD [])) h.wd=iJ ((oE.take m).foldl (λd n=>iJ d 2 ((join qH n).getD [])) h.wd) 2 ((join qH oE[m]).getD []):=by
    rw[List.take_succ_eq_append_getElem sv,List.foldl_append];rfl
   have je:=zI (yI aN (yI ay si));generalize oE[m]=nm at *;obtain⟨jn,Tm⟩:∃j,j=(join qH nm).getD []:=⟨_,rfl⟩;rw[<-Tm]at hj tC aN;obtain⟨jb,hjb⟩:∃j,j=(join qH nm).isSome:=⟨_,rfl⟩;rw[<-hjb]at hj;have cI:=zI aN;have HJ:=zI hj;have HJL:=zI tC;have q3:((m:Int)<(n:Int))=True:=eq_true (by omega)
   have q4:(m<n)=True:=eq_true ay;clear aN hj tC Tm hjb sv si je;go_wp2_with fail
   refine HJ.mono ?_;rintro e w5⟨rfl,f5⟩;have F5:=zI f5.fp;have hc:=tG q a x d _ 2 jn w.heap.size w5 (hR.sh.af F5.out) (by rw[cell_of_row _ _ _ _ _ _ (F5.heap hR.bx.hb id)];rfl) (hR.ok.Z7 HX.2.2.2.2.2.2.1) HJL.out
   have HC:=zI hc;clear f5 hc;go_wp2_with fail
   refine HC.mono ?_;rintro e w6 g6;have e6:=g6.e;subst e6;have mM:=HX.1;have vi:Bl (Bk q a x d) w5 w6:=⟨g6.fp,(hR.sh.af F5.out).mF⟩
   have hM:Hid (Yi w q a x d h ⟨10,dir,qH,da,ve,ow,tu⟩ ⟨er,rp,rd,rv,oE⟩ (.slice (some ⟨g,0,none⟩) n cn) B0 (m+1) w6):=by
    refine⟨?_,?_,(hR.bx.off F5 (λk h=>h.elim)).off g6.fp mM,?_,(hR.fp.then F5.out).same g6.fp⟩
    ·simp only
     rw[cI.out];exact g6.sh
    ·simp only
     rw[cI.out];exact hR.ok.mh 2 jn
    obtain⟨lo,hn⟩:=hR.nm;exact⟨lo,(hn.dU F5.out).off vi⟩
   clear g6 vi mM;go_wp2;go_roundw
   case rel=>exact⟨m+1,by omega,by go_num,hM⟩
   case measure=>simp[RowKit.intOf];omega
  have vQ:m=n:=by omega
  subst vQ;have q3:((m:Int)<(m:Int))=False:=eq_false (by omega)
  have hE:Ph q a x d { h with wd:=pl } w (.returned (.tuple #[])) wr:=⟨rfl,by have:=hR.sh;rw[vf.out]at this;simp only[List.take_length]at this;rw[mL.out];exact this,hR.fp⟩
  have HE:=zI hE;clear ay hm hE vZ;go_wp2;go_end0
  exact HE.out
 have jY:pl=h.wd:=by rw[wU.out];unfold eC;simp[k2,k3,k5,uU]
 have HE:=zI (HD (.returned (.tuple #[])) W3 ⟨rfl,by rw[jY];exact HX.2.2.1,Fp.refl _ _⟩)
 have e2a:(k=2)=False:=eq_false k2;have e2b:(k == 2)=false:=beq_eq_false_iff_ne.2 k2;have e3a:(k=3)=False:=eq_false k3;have e3b:(k == 3)=false:=beq_eq_false_iff_ne.2 k3;have e5a:(k=5)=False:=eq_false k5;have e5b:(k == 5)=false:=beq_eq_false_iff_ne.2 k5;have ab7:(k=10)=False:=eq_false uU;have ab8:(k == 10)=false:=beq_eq_false_iff_ne.2 uU;clear jY HN k2 k3 k5 uU;go_enter func174,ntmps174
 go_wp2;rw[<-vZ];go_end0
 exact HE.out
end
end Go.Proofs.YtgafcelloiagmaaGreatDoor
