/- A text of this proof. -/
import Derived.Test.YtgafcelloiagmaaGreatDoorZCBK
set_option maxHeartbeats 16000000
set_option linter.unusedSimpArgs false
set_option linter.unusedVariables false
set_option maxRecDepth 20000
namespace Go.Proofs.YtgafcelloiagmaaGreatDoor
open Go.Proofs.Tryz
open Go.RowKit Pm
structure CnR(d:Wd)(w:World)(e:Ending)(w':World):Prop where
 ex:∃vw vs L,e=.returned (.agg #[vw,vs])/\Cl w.heap.size vw vs d.ws L w'/\L.map aU.s=d.ss
 fp:Fp ab w w'
theorem gh.Ah{lo l2:Nat}{w:World}{v:Value}{l:List aU}(h:gh l2 w v l)(hl:lo<=l2):gh lo w v l:=by
 rcases h.ways with⟨rfl,rfl⟩|⟨G,cap,rfl,h1,h2⟩
 ·exact gh.nil _ _
 exact gh.row h1 (Nat.le_trans hl h2)
structure qB(lo N:Nat)(vw vs:Value)(ws:List Wt)(L0:List aU)(i:Nat)(w W:World):Prop where
 ex:∃L:List aU,L.map aU.s=L0.map aU.s/\gh lo W vs L/\(∀j (h:j<L.length),i<=j->∀h0:j<L0.length,L[j]=L0[j])/\(∀j (h:j<L.length),j<i->fU lo W L[j].ev L[j].s.cW)/\(∀a b (ha:a<L.length) (hb:b<L.length),a<b->b<i->∀k,L[a].ev.ownBlock=some k->L[b].ev.ownBlock≠some k)
 jj:fV lo W vw ws
 dR:W.heap[N]?=some (.cells #[vw,vs] TD (0,0))
 low:lo<=N
 fp:Fp ab w W
 lo:lo=w.heap.size
theorem qB.done{lo N:Nat}{vw vs:Value}{ws:List Wt}{L0:List aU}{i:Nat}{w W:World}(h:qB lo N vw vs ws L0 i w W)(hi:L0.length<=i):∃L,Cl lo vw vs ws L W/\L.map aU.s=L0.map aU.s:=by
 obtain⟨L,h1,h2,h3,h4,h5⟩:=h.ex;have hl:L.length=L0.length:=by have:=congrArg List.length h1;simpa using this
 refine⟨L,⟨h.jj,h2,λx hx=>?_,?_⟩,h1⟩
 ·obtain⟨j,hj,rfl⟩:=List.mem_iff_getElem.1 hx
  exact h4 j hj (by omega)
 rw[List.pairwise_iff_getElem];intro a b ha hb eV k hk;exact h5 a b ha hb eV (by omega) k hk
theorem qB.step{lo N G n cap:Nat}{vw:Value}{ws:List Wt}{L0:List aU}{i:Nat}{w W W':World}(h:qB lo N vw (.slice (some ⟨G,0,none⟩) n cap) ws L0 i w W)(hi:i<L0.length){a:Option Addr}{c:Nat}(ho:fU W.heap.size W' (.slice a L0[i].s.cW.length c) L0[i].s.cW)(f:Fp ab W W'):
  qB lo N vw (.slice (some ⟨G,0,none⟩) n cap) ws L0 (i+1) w (W'.setCell ⟨G,i*3+2,none⟩ (.slice a L0[i].s.cW.length c))/\W'.frozen? ⟨G,i*3+2,none⟩=false/\(∃v,W'.cell? ⟨G,i*3+2,none⟩=some v):=by
 obtain⟨L,h1,h2,h3,h4,h5⟩:=h.ex;have hl:L.length=L0.length:=by have:=congrArg List.length h1;simpa using this
 have XQ:i<L.length:=by omega
 have hs:L[i].s=L0[i].s:=by
  have:=congrArg (λl=>l[i]?) h1
  simp only[List.getElem?_map,List.getElem?_eq_getElem XQ,List.getElem?_eq_getElem hi,Option.map_some,Option.some.injEq]at this
  exact this
 have hG:iZ W G cap L/\lo<=G/\n=L.length:=by
  rcases h2.ways with⟨e,_⟩|⟨G',aY,e,g1,g2⟩
  ·cases e
  injection e with e1 e2 e3
  injection e1 with e1
  injection e1 with e1
  subst e1 e2 e3;exact⟨g1,g2,rfl⟩
 obtain⟨hr,hlG,hn⟩:=hG;have VC:=hr.keep f id;have hf:=bd W' G (i*3+2) (.slice a L0[i].s.cW.length c);have hGl:=hr.lt;obtain⟨r,hGt,_⟩:=VC.ex;have ay:lo<=W.heap.size:=by rw[h.lo];exact h.fp.size
 have hx:eS (⟨L0[i].s,a,c⟩:aU)=(eS L[i]).set 2 (.slice a L0[i].s.cW.length c):=by
  unfold eS;rw[hs];rfl
 have KG:∀{cs:Array Value} {T:TypeId} {j:Nat},W'.heap[j]?=some (.cells cs T (0,0))->T≠TV->j≠G:=λht hT e=>by
  subst e;exact bP ht hGt hT
 refine⟨⟨⟨L.set i ⟨L0[i].s,a,c⟩,?_,?_,?_,?_,?_⟩,?_,?_,h.low,?_,h.lo⟩,VC.frozen _,?_⟩
 ·rw[B9,h1,show L0[i].s=(L0.map aU.s)[i]'(by simpa using hi) from by rw[List.getElem_map],List.set_getElem_self]
 ·have:=gh.row (lo:=lo) (VC.set i 2 XQ (by omega) ⟨L0[i].s,a,c⟩ _ hx) hlG
  rw[List.length_set,<-hn]at this;exact this
 ·intro j hj jR h0
  rw[List.getElem_set_ne (by omega)]
  exact h3 j (by simpa using hj) (by omega) h0
 ·intro j hj jR
  rw[List.length_set]at hj;rw[List.getElem_set];split
  ·have he:=ho.lower ay
   exact he.keep hf (λk hk e=>by obtain⟨cs,ht⟩:=ho.type hk;exact KG ht (by decide) e)
  have he:=(h4 j hj (by omega)).af f
  exact he.keep hf (λk hk e=>by obtain⟨cs,ht⟩:=he.type hk;exact KG ht (by decide) e)
 ·intro x y XR hy MD hyi k hk
  rw[List.length_set]at XR hy;rw[List.getElem_set]at hk|-;rw[if_neg (by omega)]at hk
  split
  ·intro e
   have e2:=ho.low k e;have e3:=(h4 x XR (by omega)).Vs k hk
   omega
  exact h5 x y XR hy MD (by omega) k hk
 ·have he:=h.jj.af f
  exact he.keep hf (λk hk e=>by obtain⟨cs,ht⟩:=he.type hk;exact KG ht (by decide) e)
 ·have hb:=f.heap h.dR id
  exact hf.heap hb (λe=>KG hb (by decide) e)
 ·exact(h.fp.then f).trans hf (λk hk=>.inr (by have hk:k=G:=hk;rw[<-h.lo];omega))
 exact⟨_,VC.cell i 2 XQ (by omega)⟩
theorem qB.start{lo N:Nat}{vw vs:Value}{ws:List Wt}{L0:List aU}{w W:World}(hw:fV lo W vw ws)(hv:gh lo W vs L0)(hb:W.heap[N]?=some (.cells #[.slice none 0 0,.slice none 0 0] TD (0,0)))(hN:w.heap.size+2<=N)(f:Fp ab w W)(hr:W.heap[w.heap.size+1]?=some (.cells #[.slice none 0 0,.slice none 0 0] TD (0,0)))(bq:lo=w.heap.size):
  qB lo N vw vs ws L0 0 w ((W.setCell ⟨N,0,none⟩ vw).setCell ⟨N,1,none⟩ vs)/\((W.setCell ⟨N,0,none⟩ vw).setCell ⟨N,1,none⟩ vs).heap[w.heap.size+1]?=some (.cells #[.slice none 0 0,.slice none 0 0] TD (0,0)):=by
 have f1:=bd W N 0 vw;have f2:=bd (W.setCell ⟨N,0,none⟩ vw) N 1 vs;have h1:=heap_setCell_same W N 0 _ TD vw hb;have h2:=heap_setCell_same _ N 1 _ TD vs h1
 have bA:∀{cs:Array Value} {T:TypeId} {j:Nat},W.heap[j]?=some (.cells cs T (0,0))->T≠TD->j≠N:=λht hT e=>by
  subst e;exact bP ht hb hT
 have ff:Fp (λk=>k=N) W ((W.setCell ⟨N,0,none⟩ vw).setCell ⟨N,1,none⟩ vs):=f1.same f2
 refine⟨⟨⟨L0,rfl,?_,λ_ _ _ _=>rfl,λj h h0=>absurd h0 (Nat.not_lt_zero _),λa b ha Vj eV h0=>absurd h0 (Nat.not_lt_zero _)⟩,?_,h2,by omega,?_,bq⟩,?_⟩
 ·exact hv.keep ff (λk hk e=>by obtain⟨cs,ht⟩:=hv.type hk;exact bA ht (by decide) e)
 ·exact hw.keep ff (λk hk e=>by obtain⟨cs,ht⟩:=hw.type hk;exact bA ht (by decide) e)
 ·exact f.trans ff (λk hk=>.inr (by have hk:k=N:=hk;omega))
 exact ff.heap hr (λe=>by have e:w.heap.size+1=N:=e;omega)
theorem qB.G{lo N m cap:Nat}{vw:Value}{qC:Option Addr}{ws:List Wt}{L0:List aU}{i:Nat}{w W:World}(h:qB lo N vw (.slice qC m cap) ws L0 i w W)(hi:i<L0.length):∃G,qC=some ⟨G,0,none⟩:=by
 obtain⟨L,h1,h2,_⟩:=h.ex;have hl:L.length=L0.length:=by have:=congrArg List.length h1;simpa using this
 rcases h2.ways with⟨_,e⟩|⟨G',aY,e,g1,g2⟩
 ·subst e;simp at hl;omega
 injection e with e1 e2 e3
 exact⟨G',e1⟩
theorem qB.ev{lo N m cap G:Nat}{vw:Value}{ws:List Wt}{L0:List aU}{i:Nat}{w W:World}(h:qB lo N vw (.slice (some ⟨G,0,none⟩) m cap) ws L0 i w W)(hi:i<L0.length):W.cell? ⟨G,i*3+2,none⟩=some L0[i].ev:=by
 obtain⟨L,h1,h2,h3,_⟩:=h.ex;have hl:L.length=L0.length:=by have:=congrArg List.length h1;simpa using this
 rcases h2.ways with⟨e,_⟩|⟨G',aY,e,g1,g2⟩
 ·cases e
 injection e with e1 e2 e3
 injection e1 with e1
 injection e1 with e1
 subst e1 e3;have:=g1.cell i 2 (by omega) (by omega)
 rw[this,<-h3 i (by omega) (Nat.le_refl _) hi];rfl
theorem qB.OQ{lo N m cap G:Nat}{vw:Value}{ws:List Wt}{L0:List aU}{i j:Nat}{w W W':World}{v:Value}{q:Nat}(h':qB lo N vw (.slice (some ⟨G,0,none⟩) m cap) ws L0 j w (W'.setCell ⟨G,q,none⟩ v))(f:Fp ab W W')(h:qB lo N vw (.slice (some ⟨G,0,none⟩) m cap) ws L0 i w W){R:Nat}{cs:Array Value}(hr:W.heap[R]?=some (.cells cs TD (0,0)))(q':Nat)(v':Value):(W'.setCell ⟨G,q',none⟩ v').heap[R]?=some (.cells cs TD (0,0)):=by
 obtain⟨L,_,h2,_⟩:=h.ex;obtain⟨ze,ht⟩:=h2.type (j:=G) rfl;refine(bd W' G q' v').heap (f.heap hr id) (λe=>?_)
 have e:R=G:=e;subst e;exact bP ht hr (by decide)
theorem Cl.KH{lo:Nat}{vw vs:Value}{ws:List Wt}{L:List aU}{w:World}(h:Cl lo vw vs ws L w){b:Nat}{cs:Array Value}(hb:w.heap[b]?=some (.cells cs TD (0,0)))(v0 v1:Value):Cl lo vw vs ws L ((w.setCell ⟨b,0,none⟩ v0).setCell ⟨b,1,none⟩ v1):=by
 have ff:Fp (λk=>k=b) w ((w.setCell ⟨b,0,none⟩ v0).setCell ⟨b,1,none⟩ v1):=(bd w b 0 v0).same (bd _ b 1 v1)
 have bA:∀{ze:Array Value} {T:TypeId} {j:Nat},w.heap[j]?=some (.cells ze T (0,0))->T≠TD->j≠b:=λht hT e=>by
  subst e;exact bP ht hb hT
 exact h.keep ff (λk hk e=>by obtain⟨cs,ht⟩:=h.jj.type hk;exact bA ht (by decide) e) (λk hk e=>by obtain⟨cs,ht⟩:=h.fg.type hk;exact bA ht (by decide) e) (λx hx k hk e=>by obtain⟨cs,ht⟩:=(h.iu x hx).type hk;exact bA ht (by decide) e)
theorem KI(v:Value)(d:Wd)(w:World)(hv:yZ w v d)(hz:Sa d):
  Calls prog 209 #[v] w (CnR d w):=by
 obtain⟨vw,vs,rfl,hw,hs⟩:=hv.ex;obtain⟨L0,SR,oj,SS⟩:=hs.ex;have XS:=λW (f:Fp ab w W)=>Ai vw d.ws W (hw.af f) (by have:=hz.w;omega)
 have XT:=λW (f:Fp ab w W)=>Aj vs L0 W (oj.af f) (by have:=hz.s;rw[<-SR,List.length_map]at this;omega)
 have rN:=λ(i:Nat) (h:i<L0.length) W (f:Fp ab w W)=>qD L0[i].ev L0[i].s.cW W ((SS _ (List.getElem_mem h)).af f) (by have:=(hz.sp L0[i].s (by rw[<-SR];exact List.mem_map_of_mem (List.getElem_mem h))).1;omega)
 obtain⟨aw,cw,rfl⟩:=hw.shape;obtain⟨at_,cs,rfl⟩:=oj.shape;have GH:L0.length<=30000:=by have:=hz.s;rw[<-SR,List.length_map]at this;exact this
 obtain⟨n,hn⟩:∃n,n=d.ws.length:=⟨_,rfl⟩;obtain⟨m,hm⟩:∃n,n=L0.length:=⟨_,rfl⟩;rw[<-hn]at XS|-;rw[<-hm]at XT GH|-;have f0:=(aa w (.cells #[.slice aw n cw,.slice at_ m cs] TD)).then (aa _ (.cells #[.slice none 0 0,.slice none 0 0] TD));have r0:=(aa (w.alloc (.cells #[.slice aw n cw,.slice at_ m cs] TD)) (.cells #[.slice none 0 0,.slice none 0 0] TD)).heap (heap_alloc_new w (.cells #[.slice aw n cw,.slice at_ m cs] TD)) id;have r1:=heap_alloc_new (w.alloc (.cells #[.slice aw n cw,.slice at_ m cs] TD)) (.cells #[.slice none 0 0,.slice none 0 0] TD);have sz0:(w.alloc (.cells #[.slice aw n cw,.slice at_ m cs] TD)).heap.size=w.heap.size+1:=by simp
 rw[sz0]at r1;have K0:=zI (Kp.and (Kp.fp f0) (Kp.and (Kp.row r0) (Kp.row r1)));have HN:=zI (yI hn (yI hm SR));have HCW:=zI XS;have XU:=zI XT;have SE:=zI rN;clear hv hz hw hs oj SS XS XT rN f0 r0 r1 sz0 hn hm SR;go_enter func209,ntmps209
 go_wp2_with fail
 generalize dw:((w.alloc (.cells #[.slice aw n cw,.slice at_ m cs] TD)).alloc (.cells #[.slice none 0 0,.slice none 0 0] TD))=W0 at *;have rI:=zI (show W0.heap.size=w.heap.size+2 by rw[<-dw];simp)
 clear dw;have Hp:=zI (λW (f:Fp ab W0 W)=>aI (K0 W f).2.1)
 have mj:=zI ((Fp.refl ab W0).drew);refine wp_region_held_drew (S:=(λW=>W.cell? ⟨w.heap.size,0,none⟩=some (.slice aw n cw)/\W.cell? ⟨w.heap.size,1,none⟩=some (.slice at_ m cs))) (by kernel_rfl) ?_ (λhH=>?_)
 ·exact Hp _ mj.out
 refine aF 0 hH ?_;refine aF 1 hH ?_;refine aF 3 hH ?_;refine aF 4 hH ?_;refine wpAnyH_ready (rs:=[2,7]) (by kernel_rfl) (by simp) ?_
 refine AllReadyH.cons (o:=?_) (by simp only[zA,zB,zC]<;>exact rfl) (λK hK=>?_) (AllReadyH.cons (o:=?_) (by simp only[zA,zB,zC]<;>exact rfl) (λK hK=>?_) AllReadyH.nil)
 ·go_simp
  refine(HCW _ (K0 _ mj.out).1).mono ?_;rintro e w1⟨v1,rfl,hR⟩;have uw:=zI (show fV w.heap.size w1 v1 d.ws from hR.own.lower (by have:=mj.size;have:=rI.out;omega))
  have F1:=zI (mj.then hR.fp);obtain⟨pe,pf,rfl⟩:∃a c,v1=.slice a n c:=by rw[HN.1];exact hR.own.ns.shape
  clear hR;go_wp2_with fail
  refine hK _ _ (Hp _ F1.out) (λhH=>?_)
  clear hK K;try simp only[zz]
  refine wpAnyH_ready (rs:=[5,7]) (by kernel_rfl) (by simp) ?_
  refine AllReadyH.cons (o:=?_) (by simp only[zA,zB,zC]<;>exact rfl) (λK hK=>?_) (AllReadyH.cons (o:=?_) (by simp only[zA,zB,zC]<;>exact rfl) (λK hK=>?_) AllReadyH.nil)
  ·go_simp
   refine(XU _ (K0 _ F1.out).1).mono ?_;rintro e w2⟨v2,rfl,hR⟩;have uw:=zI (uw.af hR.fp);have OR:=zI (show gh w.heap.size w2 v2 L0 from hR.own.Ah (by have:=F1.size;have:=rI.out;omega))
   have F2:=zI (F1.then hR.fp);obtain⟨qC,qE,rfl⟩:∃a c,v2=.slice a m c:=by rw[HN.2.1];exact hR.own.ns.shape
   clear hR;go_wp2_with fail
   refine hK _ _ (Hp _ F2.out) (λhH=>?_)
   clear hK K;try simp only[zz]
   refine aF 6 hH ?_;refine rY 7 (λK hK=>?_)
   go_simp;go_simp;have nj:=zI (heap_alloc_new (w2) (.cells #[.slice none 0 0,.slice none 0 0] TD));have F3:=zI (F2.then (aa (w2) (.cells #[.slice none 0 0,.slice none 0 0] TD)));have xB:=zI (show w.heap.size+2<=(w2).heap.size by have:=F2.size;have:=rI.out;first|omega|(simp only[World.drew]at *;omega))
   have uw:=zI (uw.af (aa (w2) (.cells #[.slice none 0 0,.slice none 0 0] TD)));have OR:=zI (OR.af (aa (w2) (.cells #[.slice none 0 0,.slice none 0 0] TD)));go_wp2_with fail
   refine hK _ _ (Hp _ F3.out) (λhH=>?_)
   clear hK K;try simp only[zz]
   generalize (World.alloc (w2) (.cells #[.slice none 0 0,.slice none 0 0] TD))=wn at *;obtain⟨N,hN⟩:∃N,N=w2.heap.size:=⟨_,rfl⟩;rw[<-hN]at nj xB|-;clear hN;obtain⟨u0,u1⟩:=aI nj.out;have u2:=ae nj.out 0;have jG:=heap_setCell_same _ N 0 _ TD (.slice pe n pf) nj.out;have u4:=(aI jG).2;have u5:=ae jG 1;obtain⟨k8,k9⟩:=qB.start uw OR nj xB (K0 _ F3.out).1 (K0 _ F3.out).2.2 rfl;have H8:=zI (yI k8 k9)
   have M2:=zI (show ∀W,W=(World.setCell (World.setCell wn ⟨N,0,none⟩ (.slice pe n pf)) ⟨N,1,none⟩ (.slice qC m qE))->W.cell? ⟨w.heap.size,0,none⟩=some (.slice aw n cw)/\W.cell? ⟨w.heap.size,1,none⟩=some (.slice at_ m cs) from λW hW=>by
    subst hW;have ba:=(K0 _ F3.out).2.1;have bA:w.heap.size≠N:=by have:=xB.out;omega
    exact aI ((bd _ N 1 _).heap ((bd _ N 0 _).heap ba (λe=>bA e)) (λe=>bA e)))
   clear jG k8 k9;refine rY 8 (λK hK=>?_)
   go_simp;refine hK _ _ (M2 _ rfl) (λhH=>?_)
   clear hK K hH;try simp only[zz]
   refine yD ?_;clear u0 u1 u2 u4 u5 M2;generalize (World.setCell (World.setCell wn ⟨N,0,none⟩ _) ⟨N,1,none⟩ _)=W8 at *;obtain⟨p0,p1⟩:=aI H8.1.dR;go_wp2_with fail
   go_loopw [16] (λi wr=>∃k:Nat,k<=m/\i=.int .i64 k/\Hid (qB w.heap.size N (.slice pe n pf) (.slice qC m qE) d.ws L0 k w wr/\wr.heap[w.heap.size+1]?=some (.cells #[.slice none 0 0,.slice none 0 0] TD (0,0)))) (λi _=>m-(RowKit.intOf i).toNat)
   case atStart=>exact⟨0,Nat.zero_le _,rfl,H8.out⟩
   clear p0 p1;obtain⟨k,hk,rfl,hR⟩:=hrel;rename_i wr _
   by_cases ay:k<m
   ·have aS:k<L0.length:=by rw[<-HN.2.1];exact ay
    obtain⟨p0,p1⟩:=aI hR.1.dR;obtain⟨G,rfl⟩:=hR.1.G aS;have mG:=hR.1.ev aS;have rN:=SE k aS wr hR.1.fp;have aN:=λa c W' (ho:fU wr.heap.size W' (.slice a L0[k].s.cW.length c) L0[k].s.cW) (f:Fp ab wr W')=>hR.1.step aS ho f
    have HL:=zI ay;generalize L0[k]=x at *;obtain⟨xS,xa,xc⟩:=x;unfold aU.ev at mG rN;simp only at mG rN aN
    obtain⟨xl,uQ⟩:∃n,n=xS.cW.length:=⟨_,rfl⟩;rw[<-uQ]at mG rN aN;have SU:=zI uQ;have GU:=zI rN;have je:=zI aN;have q3:((k:Int)<(m:Int))=True:=eq_true (by omega)
    have q4:(k<m)=True:=eq_true ay;clear rN aN ay aS uQ;go_wp2_with fail
    refine GU.mono ?_;rintro e w5⟨v5,rfl,xC⟩;obtain⟨a5,c5,e5⟩:=xC.own.ns.shape;rw[<-SU.out]at e5;subst e5;obtain⟨k1,k2,vo,k3⟩:=je a5 c5 w5 xC.own xC.fp;have hM:Hid (qB w.heap.size N (.slice pe n pf) (.slice (some ⟨G,0,none⟩) m qE) d.ws L0 (k+1) w (w5.setCell ⟨G,k*3+2,none⟩ (.slice a5 xl c5))/\(w5.setCell ⟨G,k*3+2,none⟩ (.slice a5 xl c5)).heap[w.heap.size+1]?=some (.cells #[.slice none 0 0,.slice none 0 0] TD (0,0))):=⟨k1,k1.OQ xC.fp hR.1 hR.2 _ _⟩;have eJ:=HL.out;clear xC k1;go_wp2;go_roundw
    case rel=>exact⟨k+1,by omega,by go_num,hM⟩
    case measure=>simp[RowKit.intOf];omega
   have cV:k=m:=by omega
   subst cV;have q3:((k:Int)<(k:Int))=False:=eq_false (by omega)
   obtain⟨L,hc,GV⟩:=hR.1.done (by rw[<-HN.2.1];exact Nat.le_refl _)
   obtain⟨p0,p1⟩:=aI hR.1.dR;obtain⟨r0,r1⟩:=aI hR.2;have z0:=ae hR.2 0;have jG:=heap_setCell_same wr (w.heap.size+1) 0 _ TD (.slice pe n pf) hR.2;have z1:=(aI jG).2;have z2:=ae jG 1;have l7:=heap_setCell_same _ (w.heap.size+1) 1 _ TD (.slice qC k qE) jG;have HF:=zI (hc.KH hR.2 (.slice pe n pf) (.slice qC k qE));have iD:=zI (yI l7 (yI GV ((hR.1.fp.trans (bd wr (w.heap.size+1) 0 (.slice pe n pf)) (λj hj=>.inr (by have hj:j=w.heap.size+1:=hj;omega))).trans (bd _ (w.heap.size+1) 1 (.slice qC k qE)) (λj hj=>.inr (by have hj:j=w.heap.size+1:=hj;omega)))))
   clear ay hk hc jG l7 GV;go_wp2_with fail
   generalize (World.setCell (World.setCell wr _ _) _ _)=wz at *;obtain⟨s0,s1⟩:=aI iD.1;refine bodyPost_ret (v:=.agg #[.slice pe n pf,.slice qC k qE]) (by simp[results,results209,go_sem,s0,s1]) rfl ?_
   exact⟨⟨_,_,L,rfl,HF.out,by rw[iD.2.1,HN.2.2]⟩,iD.2.2⟩
  go_simp;have nj:=zI (heap_alloc_new (w1) (.cells #[.slice none 0 0,.slice none 0 0] TD));have F2:=zI (F1.then (aa (w1) (.cells #[.slice none 0 0,.slice none 0 0] TD)));have xB:=zI (show w.heap.size+2<=(w1).heap.size by have:=F1.size;have:=rI.out;first|omega|(simp only[World.drew]at *;omega))
  have uw:=zI (uw.af (aa (w1) (.cells #[.slice none 0 0,.slice none 0 0] TD)));go_wp2_with fail
  refine hK _ _ (Hp _ F2.out) (λhH=>?_)
  clear hK K;try simp only[zz]
  generalize (World.alloc (w1) (.cells #[.slice none 0 0,.slice none 0 0] TD))=wn at *;refine rY 5 (λK hK=>?_)
  go_simp;go_simp;refine(XU _ (K0 _ F2.out).1).mono ?_;rintro e w2⟨v2,rfl,hR⟩;have nj:=zI (hR.fp.heap nj id);have uw:=zI (uw.af hR.fp);have OR:=zI (show gh w.heap.size w2 v2 L0 from hR.own.Ah (by have:=F2.size;have:=rI.out;omega))
  have F3:=zI (F2.then hR.fp);obtain⟨qC,qE,rfl⟩:∃a c,v2=.slice a m c:=by rw[HN.2.1];exact hR.own.ns.shape
  clear hR;go_wp2_with fail
  refine hK _ _ (Hp _ F3.out) (λhH=>?_)
  clear hK K;try simp only[zz]
  refine aF 6 hH ?_;obtain⟨N,hN⟩:∃N,N=w1.heap.size:=⟨_,rfl⟩;rw[<-hN]at nj xB|-;clear hN;obtain⟨u0,u1⟩:=aI nj.out;have u2:=ae nj.out 0;have jG:=heap_setCell_same _ N 0 _ TD (.slice pe n pf) nj.out;have u4:=(aI jG).2;have u5:=ae jG 1;obtain⟨k8,k9⟩:=qB.start uw OR nj xB (K0 _ F3.out).1 (K0 _ F3.out).2.2 rfl;have H8:=zI (yI k8 k9)
  have M2:=zI (show ∀W,W=(World.setCell (World.setCell w2 ⟨N,0,none⟩ (.slice pe n pf)) ⟨N,1,none⟩ (.slice qC m qE))->W.cell? ⟨w.heap.size,0,none⟩=some (.slice aw n cw)/\W.cell? ⟨w.heap.size,1,none⟩=some (.slice at_ m cs) from λW hW=>by
   subst hW;have ba:=(K0 _ F3.out).2.1;have bA:w.heap.size≠N:=by have:=xB.out;omega
   exact aI ((bd _ N 1 _).heap ((bd _ N 0 _).heap ba (λe=>bA e)) (λe=>bA e)))
  clear jG k8 k9;refine rY 8 (λK hK=>?_)
  go_simp;refine hK _ _ (M2 _ rfl) (λhH=>?_)
  clear hK K hH;try simp only[zz]
  refine yD ?_;clear u0 u1 u2 u4 u5 M2;generalize (World.setCell (World.setCell w2 ⟨N,0,none⟩ _) ⟨N,1,none⟩ _)=W8 at *;obtain⟨p0,p1⟩:=aI H8.1.dR;go_wp2_with fail
  go_loopw [16] (λi wr=>∃k:Nat,k<=m/\i=.int .i64 k/\Hid (qB w.heap.size N (.slice pe n pf) (.slice qC m qE) d.ws L0 k w wr/\wr.heap[w.heap.size+1]?=some (.cells #[.slice none 0 0,.slice none 0 0] TD (0,0)))) (λi _=>m-(RowKit.intOf i).toNat)
  case atStart=>exact⟨0,Nat.zero_le _,rfl,H8.out⟩
  clear p0 p1;obtain⟨k,hk,rfl,hR⟩:=hrel;rename_i wr _
  by_cases ay:k<m
  ·have aS:k<L0.length:=by rw[<-HN.2.1];exact ay
   obtain⟨p0,p1⟩:=aI hR.1.dR;obtain⟨G,rfl⟩:=hR.1.G aS;have mG:=hR.1.ev aS;have rN:=SE k aS wr hR.1.fp;have aN:=λa c W' (ho:fU wr.heap.size W' (.slice a L0[k].s.cW.length c) L0[k].s.cW) (f:Fp ab wr W')=>hR.1.step aS ho f
   have HL:=zI ay;generalize L0[k]=x at *;obtain⟨xS,xa,xc⟩:=x;unfold aU.ev at mG rN;simp only at mG rN aN
   obtain⟨xl,uQ⟩:∃n,n=xS.cW.length:=⟨_,rfl⟩;rw[<-uQ]at mG rN aN;have SU:=zI uQ;have GU:=zI rN;have je:=zI aN;have q3:((k:Int)<(m:Int))=True:=eq_true (by omega)
   have q4:(k<m)=True:=eq_true ay;clear rN aN ay aS uQ;go_wp2_with fail
   refine GU.mono ?_;rintro e w5⟨v5,rfl,xC⟩;obtain⟨a5,c5,e5⟩:=xC.own.ns.shape;rw[<-SU.out]at e5;subst e5;obtain⟨k1,k2,vo,k3⟩:=je a5 c5 w5 xC.own xC.fp;have hM:Hid (qB w.heap.size N (.slice pe n pf) (.slice (some ⟨G,0,none⟩) m qE) d.ws L0 (k+1) w (w5.setCell ⟨G,k*3+2,none⟩ (.slice a5 xl c5))/\(w5.setCell ⟨G,k*3+2,none⟩ (.slice a5 xl c5)).heap[w.heap.size+1]?=some (.cells #[.slice none 0 0,.slice none 0 0] TD (0,0))):=⟨k1,k1.OQ xC.fp hR.1 hR.2 _ _⟩;have eJ:=HL.out;clear xC k1;go_wp2;go_roundw
   case rel=>exact⟨k+1,by omega,by go_num,hM⟩
   case measure=>simp[RowKit.intOf];omega
  have cV:k=m:=by omega
  subst cV;have q3:((k:Int)<(k:Int))=False:=eq_false (by omega)
  obtain⟨L,hc,GV⟩:=hR.1.done (by rw[<-HN.2.1];exact Nat.le_refl _)
  obtain⟨p0,p1⟩:=aI hR.1.dR;obtain⟨r0,r1⟩:=aI hR.2;have z0:=ae hR.2 0;have jG:=heap_setCell_same wr (w.heap.size+1) 0 _ TD (.slice pe n pf) hR.2;have z1:=(aI jG).2;have z2:=ae jG 1;have l7:=heap_setCell_same _ (w.heap.size+1) 1 _ TD (.slice qC k qE) jG;have HF:=zI (hc.KH hR.2 (.slice pe n pf) (.slice qC k qE));have iD:=zI (yI l7 (yI GV ((hR.1.fp.trans (bd wr (w.heap.size+1) 0 (.slice pe n pf)) (λj hj=>.inr (by have hj:j=w.heap.size+1:=hj;omega))).trans (bd _ (w.heap.size+1) 1 (.slice qC k qE)) (λj hj=>.inr (by have hj:j=w.heap.size+1:=hj;omega)))))
  clear ay hk hc jG l7 GV;go_wp2_with fail
  generalize (World.setCell (World.setCell wr _ _) _ _)=wz at *;obtain⟨s0,s1⟩:=aI iD.1;refine bodyPost_ret (v:=.agg #[.slice pe n pf,.slice qC k qE]) (by simp[results,results209,go_sem,s0,s1]) rfl ?_
  exact⟨⟨_,_,L,rfl,HF.out,by rw[iD.2.1,HN.2.2]⟩,iD.2.2⟩
 go_simp;have nj:=zI (show((World.alloc W0 (.cells #[.slice none 0 0,.slice none 0 0] TD)).drew).heap[W0.heap.size]?=_ from heap_alloc_new W0 (.cells #[.slice none 0 0,.slice none 0 0] TD));have F1:=zI ((aa W0 (.cells #[.slice none 0 0,.slice none 0 0] TD)).drew);have xB:=zI (show w.heap.size+2<=W0.heap.size by have:=rI.out;omega)
 go_wp2_with fail
 refine hK _ _ (Hp _ F1.out) (λhH=>?_)
 clear hK K;try simp only[zz]
 generalize (World.alloc W0 (.cells #[.slice none 0 0,.slice none 0 0] TD)).drew=wn at *;refine rY 2 (λK hK=>?_)
 go_simp;go_simp;refine(HCW _ (K0 _ F1.out).1).mono ?_;rintro e w1⟨v1,rfl,hR⟩;have nj:=zI (hR.fp.heap nj id);have uw:=zI (show fV w.heap.size w1 v1 d.ws from hR.own.lower (by have:=F1.size;have:=rI.out;omega))
 have F2:=zI (F1.then hR.fp);obtain⟨pe,pf,rfl⟩:∃a c,v1=.slice a n c:=by rw[HN.1];exact hR.own.ns.shape
 clear hR;go_wp2_with fail
 refine hK _ _ (Hp _ F2.out) (λhH=>?_)
 clear hK K;try simp only[zz]
 refine rY 5 (λK hK=>?_)
 go_simp;go_simp;refine(XU _ (K0 _ F2.out).1).mono ?_;rintro e w2⟨v2,rfl,hR⟩;have nj:=zI (hR.fp.heap nj id);have uw:=zI (uw.af hR.fp);have OR:=zI (show gh w.heap.size w2 v2 L0 from hR.own.Ah (by have:=F2.size;have:=rI.out;omega))
 have F3:=zI (F2.then hR.fp);obtain⟨qC,qE,rfl⟩:∃a c,v2=.slice a m c:=by rw[HN.2.1];exact hR.own.ns.shape
 clear hR;go_wp2_with fail
 refine hK _ _ (Hp _ F3.out) (λhH=>?_)
 clear hK K;try simp only[zz]
 refine aF 6 hH ?_;obtain⟨N,hN⟩:∃N,N=W0.heap.size:=⟨_,rfl⟩;rw[<-hN]at nj xB|-;clear hN;obtain⟨u0,u1⟩:=aI nj.out;have u2:=ae nj.out 0;have jG:=heap_setCell_same _ N 0 _ TD (.slice pe n pf) nj.out;have u4:=(aI jG).2;have u5:=ae jG 1;obtain⟨k8,k9⟩:=qB.start uw OR nj xB (K0 _ F3.out).1 (K0 _ F3.out).2.2 rfl;have H8:=zI (yI k8 k9)
 have M2:=zI (show ∀W,W=(World.setCell (World.setCell w2 ⟨N,0,none⟩ (.slice pe n pf)) ⟨N,1,none⟩ (.slice qC m qE))->W.cell? ⟨w.heap.size,0,none⟩=some (.slice aw n cw)/\W.cell? ⟨w.heap.size,1,none⟩=some (.slice at_ m cs) from λW hW=>by
  subst hW;have ba:=(K0 _ F3.out).2.1;have bA:w.heap.size≠N:=by have:=xB.out;omega
  exact aI ((bd _ N 1 _).heap ((bd _ N 0 _).heap ba (λe=>bA e)) (λe=>bA e)))
 clear jG k8 k9;refine rY 8 (λK hK=>?_)
 go_simp;refine hK _ _ (M2 _ rfl) (λhH=>?_)
 clear hK K hH;try simp only[zz]
 refine yD ?_;clear u0 u1 u2 u4 u5 M2;generalize (World.setCell (World.setCell w2 ⟨N,0,none⟩ _) ⟨N,1,none⟩ _)=W8 at *;obtain⟨p0,p1⟩:=aI H8.1.dR;go_wp2_with fail
 go_loopw [16] (λi wr=>∃k:Nat,k<=m/\i=.int .i64 k/\Hid (qB w.heap.size N (.slice pe n pf) (.slice qC m qE) d.ws L0 k w wr/\wr.heap[w.heap.size+1]?=some (.cells #[.slice none 0 0,.slice none 0 0] TD (0,0)))) (λi _=>m-(RowKit.intOf i).toNat)
 case atStart=>exact⟨0,Nat.zero_le _,rfl,H8.out⟩
 clear p0 p1;obtain⟨k,hk,rfl,hR⟩:=hrel;rename_i wr _
 by_cases ay:k<m
 ·have aS:k<L0.length:=by rw[<-HN.2.1];exact ay
  obtain⟨p0,p1⟩:=aI hR.1.dR;obtain⟨G,rfl⟩:=hR.1.G aS;have mG:=hR.1.ev aS;have rN:=SE k aS wr hR.1.fp;have aN:=λa c W' (ho:fU wr.heap.size W' (.slice a L0[k].s.cW.length c) L0[k].s.cW) (f:Fp ab wr W')=>hR.1.step aS ho f
  have HL:=zI ay;generalize L0[k]=x at *;obtain⟨xS,xa,xc⟩:=x;unfold aU.ev at mG rN;simp only at mG rN aN
  obtain⟨xl,uQ⟩:∃n,n=xS.cW.length:=⟨_,rfl⟩;rw[<-uQ]at mG rN aN;have SU:=zI uQ;have GU:=zI rN;have je:=zI aN;have q3:((k:Int)<(m:Int))=True:=eq_true (by omega)
  have q4:(k<m)=True:=eq_true ay;clear rN aN ay aS uQ;go_wp2_with fail
  refine GU.mono ?_;rintro e w5⟨v5,rfl,xC⟩;obtain⟨a5,c5,e5⟩:=xC.own.ns.shape;rw[<-SU.out]at e5;subst e5;obtain⟨k1,k2,vo,k3⟩:=je a5 c5 w5 xC.own xC.fp;have hM:Hid (qB w.heap.size N (.slice pe n pf) (.slice (some ⟨G,0,none⟩) m qE) d.ws L0 (k+1) w (w5.setCell ⟨G,k*3+2,none⟩ (.slice a5 xl c5))/\(w5.setCell ⟨G,k*3+2,none⟩ (.slice a5 xl c5)).heap[w.heap.size+1]?=some (.cells #[.slice none 0 0,.slice none 0 0] TD (0,0))):=⟨k1,k1.OQ xC.fp hR.1 hR.2 _ _⟩;have eJ:=HL.out;clear xC k1;go_wp2;go_roundw
  case rel=>exact⟨k+1,by omega,by go_num,hM⟩
  case measure=>simp[RowKit.intOf];omega
 have cV:k=m:=by omega
 subst cV;have q3:((k:Int)<(k:Int))=False:=eq_false (by omega)
 obtain⟨L,hc,GV⟩:=hR.1.done (by rw[<-HN.2.1];exact Nat.le_refl _)
 obtain⟨p0,p1⟩:=aI hR.1.dR;obtain⟨r0,r1⟩:=aI hR.2;have z0:=ae hR.2 0;have jG:=heap_setCell_same wr (w.heap.size+1) 0 _ TD (.slice pe n pf) hR.2;have z1:=(aI jG).2;have z2:=ae jG 1;have l7:=heap_setCell_same _ (w.heap.size+1) 1 _ TD (.slice qC k qE) jG;have HF:=zI (hc.KH hR.2 (.slice pe n pf) (.slice qC k qE));have iD:=zI (yI l7 (yI GV ((hR.1.fp.trans (bd wr (w.heap.size+1) 0 (.slice pe n pf)) (λj hj=>.inr (by have hj:j=w.heap.size+1:=hj;omega))).trans (bd _ (w.heap.size+1) 1 (.slice qC k qE)) (λj hj=>.inr (by have hj:j=w.heap.size+1:=hj;omega)))))
 clear ay hk hc jG l7 GV;go_wp2_with fail
 generalize (World.setCell (World.setCell wr _ _) _ _)=wz at *;obtain⟨s0,s1⟩:=aI iD.1;refine bodyPost_ret (v:=.agg #[.slice pe n pf,.slice qC k qE]) (by simp[results,results209,go_sem,s0,s1]) rfl ?_
 exact⟨⟨_,_,L,rfl,HF.out,by rw[iD.2.1,HN.2.2]⟩,iD.2.2⟩
end Go.Proofs.YtgafcelloiagmaaGreatDoor
