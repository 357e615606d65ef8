/- A text of this proof. -/
import Derived.Test.YtgafcelloiagmaaGreatDoorZCBU
set_option maxHeartbeats 16000000
set_option linter.unusedSimpArgs false
set_option linter.unusedVariables false
set_option maxRecDepth 20000
namespace Go.Proofs.YtgafcelloiagmaaGreatDoor
open Go.Proofs.Tryz
open Go.RowKit Pm
attribute [local irreducible] wpStill
structure Uc(W0:World)(o:Option (List Hl))(b6:Nat)(vn:Value)(W:World):Prop where
 fp:Fp ab W0 W
 row:W.heap[b6]?=some (.cells #[vn] bE (0,0))
 ns:di W vn (o.getD [])
 lt:W0.heap.size<=b6
theorem Ud{W:World}{b:Nat}{v:Value}{a:Option Addr}{n c:Nat}(h:W.heap[b]?=some (.cells #[.slice a n c] bE (0,0))):oY W b:=
 .inr ⟨_,_,h,jk (by decide) (by decide) (λv hv=>by simp at hv;subst hv;exact .inl ⟨_,_,_,rfl⟩)⟩
theorem Uc.end{W0 V:World}{o:Option (List Hl)}{b6:Nat}{vn:Value}(hf:Fp ab W0 V)(hr:V.heap[b6]?=some (.cells #[.slice none 0 0] bE (0,0)))(hl:W0.heap.size<=b6)(hn:di V vn (o.getD [])):Uc W0 o b6 vn (V.setCell ⟨b6,0,none⟩ vn):=
 ⟨hf.trans (kj V b6 0 vn) (λk hk=>.inr (by have hk:k=b6:=hk;omega)),by rw[heap_setCell_same V b6 0 _ bE vn hr];rfl,hn.off ⟨kj V b6 0 vn,λk hk=>by have hk:k=b6:=hk;subst hk;exact Ud (v:=vn) hr⟩,hl⟩
structure zl(W0:World)(s:St)(b8:Nat)(v1 u1:Value)(W:World):Prop where
 fp:Fp ab W0 W
 row:W.heap[b8]?=some (.cells #[v1,u1] aM (0,0))
 n:Ns W v1 s.nodes
 t:Ts W u1 s.turns
theorem zl.end{W0 V:World}{s:St}{b8 b9:Nat}{a1 a2:Option Addr}{n1 k1 p1 j1:Nat}{v2 u2:Value}(hf:Fp ab W0 V)(h8:V.heap[b8]?=some (.cells V3 aM (0,0)))(h9:V.heap[b9]?=some (.cells V3 aM (0,0)))(bA:b9≠b8)(l8:W0.heap.size<=b8)(l9:W0.heap.size<=b9)
  (hn:Ns V (.slice a1 n1 k1) s.nodes) (ht:Ts V (.slice a2 p1 j1) s.turns):zl W0 s b8 (.slice a1 n1 k1) (.slice a2 p1 j1) ((V.setRow b8 #[.slice a1 n1 k1,.slice a2 p1 j1]).setRow b9 #[v2,u2]):=by
 have g1:=av V b8 #[.slice a1 n1 k1,.slice a2 p1 j1];have r8:=aj (cs:=#[.slice a1 n1 k1,.slice a2 p1 j1]) h8;have r9:=g1.heap h9 bA;have g2:=av (V.setRow b8 #[.slice a1 n1 k1,.slice a2 p1 j1]) b9 #[v2,u2];have b1:Bl (λk=>k=b8) V (V.setRow b8 #[.slice a1 n1 k1,.slice a2 p1 j1]):=⟨g1,λk hk=>by have hk:k=b8:=hk;subst hk;exact He h8⟩
 have b2:Bl (λk=>k=b9) (V.setRow b8 #[.slice a1 n1 k1,.slice a2 p1 j1]) ((V.setRow b8 #[.slice a1 n1 k1,.slice a2 p1 j1]).setRow b9 #[v2,u2]):=⟨g2,λk hk=>by have hk:k=b9:=hk;subst hk;exact He r9⟩
 exact⟨(hf.trans g1 (λk hk=>.inr (by have hk:k=b8:=hk;omega))).trans g2 (λk hk=>.inr (by have hk:k=b9:=hk;omega)),g2.heap r8 bA.symm,(hn.off b1).off b2,(ht.off b1).off b2⟩
def DL(h:bQ)(pre:Bs)(ep:Int):Option (List Hl)->bQ×ck
 |none=>(h,.no 132)
 |some now=>if decide ((⟨pre,ep,2⟩:Hl)∈now)=false then (h,.no 133)
  else if h.hs.any (λx=>decide (qe now x.d=pre))=true then (h,.no 131)
  else zy { h with rg:=now } pre ep
theorem PN{h:bQ}{pre:Bs}{ep:Int}(hp:pre≠[]):jf h pre ep=if decide ((⟨pre,ep,2⟩:Hl)∈h.rg)=true then zy h pre ep else DL h pre ep (ED h.rg pre):=by
 unfold jf;rw[if_neg hp];simp only[decide_eq_true_eq]
 split
 ·rfl
 cases ED h.rg pre with
 |none=>rfl
 |some now=>unfold DL;simp only[decide_eq_false_iff_not]
theorem Lq{W:World}{b:Nat}{v u:Value}(h:W.heap[b]?=some (.cells #[v,u] aM (0,0))):W.cell? ⟨b,0,none⟩=some v/\W.cell? ⟨b,1,none⟩=some u:=⟨by rw[cell_of_row _ _ _ _ _ _ h];rfl,by rw[cell_of_row _ _ _ _ _ _ h];rfl⟩
theorem Ue{W:World}{b:Nat}{x:Hl}(h:W.heap[b]?=some (.cells #[.string (B x.d),.int .i64 x.t,.int .i64 x.a] dx (0,0))):W.cell? ⟨b,0,none⟩=some (.string (B x.d))/\W.cell? ⟨b,1,none⟩=some (.int .i64 x.t)/\W.cell? ⟨b,2,none⟩=some (.int .i64 x.a):=⟨by rw[cell_of_row _ _ _ _ _ _ h];rfl,by rw[cell_of_row _ _ _ _ _ _ h];rfl,by rw[cell_of_row _ _ _ _ _ _ h];rfl⟩
theorem DM(s pre:Bs)(now:List Hl)(vn:Value)(b6 bc:Nat)(w:World)(hs:s.length<=1000000)(hv:di w vn now)(hz:BK now)(h6:w.cell? ⟨b6,0,none⟩=some vn)(hc:w.cell? ⟨bc,6,none⟩=some (.string (B pre))):
  Calls prog 133 #[.string (B s),.pointer (some ⟨b6,0,none⟩),.pointer (some ⟨bc,0,none⟩)] w λe w'=>e=.returned (.bool (decide (qe now s=pre)))/\Fp ab w w':=by
 have hp:=λW (f:Fp ab w W)=>Ar vn now s W (hv.af f) hz hs
 have HPX:=zI hp;have HC:=zI (yI h6 hc);generalize qe now s=y at *;obtain⟨a6,n6,c6,rfl⟩:∃a n c,vn=.slice a n c:=by obtain⟨a,c,e⟩:=hv.shape;exact⟨a,_,c,e⟩
 obtain⟨bb,zx⟩:∃b,b=decide (y=pre):=⟨_,rfl⟩;have q1:(y == pre)=bb:=by rw[zx,Bool.eq_iff_iff];simp
 rw[<-zx];clear hp hv hz hs h6 hc zx;go_enter func133,ntmps133
 go_wp2_with fail
 refine wp_region_held_drew (S:=(λw'=>w'.cell? ⟨b6,0,none⟩=some (.slice a6 n6 c6)/\w'.cell? ⟨bc,6,none⟩=some (.string (B pre)))) (by kernel_rfl) ?_ (λhH=>?_)
 ·exact⟨(Fp.refl ab _).drew.cell HC.1 id,(Fp.refl ab _).drew.cell HC.2 id⟩
 refine aF 0 hH ?_;refine aF 1 hH ?_;refine aF 3 hH ?_;refine aF 4 hH ?_;refine rY 2 (λK hK=>?_)
 go_simp;refine(HPX _ ((Fp.refl ab _).drew)).mono ?_;rintro e w2⟨rfl,f2⟩;have F2:=zI (((Fp.refl ab _).drew).then f2);clear f2;go_wp2_with fail
 refine hK _ _ ⟨F2.cell HC.1 id,F2.cell HC.2 id⟩ (λhH=>?_)
 clear hK K;try simp only[zz]
 refine aF 5 hH ?_;refine aF 6 hH ?_;refine yD ?_;go_wp2;go_ret;exact⟨rfl,F2.out⟩
theorem Inv.sp{N B0:Nat}{h:bQ}(k:Inv N B0 h):Sp h.st.nodes:=λn hn=>by
 have h1:=k.st.fit n hn;have:=cy ((gE n).1 h1).1;omega
theorem Inv.tsp{N B0:Nat}{h:bQ}(k:Inv N B0 h):∀t∈h.st.turns,t.dir.length<=1000000:=λt ht=>by
 have h1:=k.st.fe t ht;have:=cy (by unfold fe at h1;simp only[Bool.and_eq_true]at h1;exact h1.1);omega
theorem Ht(q a x d:Nat)(h:bQ)(c:Cd)(vp vn vt vg:Value)(N B0:Nat)(w:World)(hS:iR w q a x d h)(hI:Inv N B0 h)(hN:N<=3800)(cC:c.pre.length<=1000000):
  Calls prog 90 #[.pointer (some ⟨q,0,none⟩),.agg (kg c vp vn vt vg)] w (bN q a x d (jf h c.pre c.ep) w):=by
 have ay:=hS.lt;obtain⟨fS,fT,KY,JA,TB,QY,hP⟩:=hS.ex;obtain⟨ar,nr,cr,rfl⟩:∃a n c,KY=.slice a n c:=by obtain⟨a,c,e⟩:=hP.v.r.shape;exact⟨a,_,c,e⟩
 obtain⟨⟨g1,g2,g3,rfl⟩,⟨g4,g5,g6,rfl⟩⟩:=yI (hP.v.eL fS (by simp)) (hP.v.eL fT (by simp))
 have hF:=Fr.made w c vp vn vt vg;obtain⟨W2,gS⟩:∃W2,W2=(w.alloc (.cells (kg c vp vn vt vg) sr)).alloc (.cells fq aT):=⟨_,rfl⟩;rw[<-gS]at hF;obtain⟨fx,ux⟩:∃z:Hl,z=⟨c.pre,c.ep,2⟩:=⟨_,rfl⟩;have eQ:=λv l W (hv:di W v l) (hl:l.length<=1000000)=>uz v l fx W hv hl
 have NP:=λW (f:Fp ab w W)=>FF (.slice ar nr cr) h.rg c.pre W (hP.v.r.af f) hI.Ni cC
 have pH:=λv l W (f:Fp (Bk q a x d) w W) (hv:di W v l) (hr:kT l) (hz:BK l)=>Pp (.slice g1 g2 g3) (.slice g4 g5 g6) v h.st l c.pre W (hP.v.n.off ⟨f,hS.mF⟩) (hP.v.t.off ⟨f,hS.mF⟩) hI.sp hI.tsp (ei hI.st) (by have:=hI.n;omega) (by have:=hI.m;omega) hv hz hr
 have Uf:=λf W p (hf:Fp ab w W) (hp:DA W f p)=>As f JA q p h.hs W ((hP.af hf).cell 3 (v:=JA) rfl) (hP.v.hh.af hf) hI.fF (by have:=hI.hn;omega) hp
 have k6:=hF.cell 6 (v:=.string (B c.pre)) rfl;have k7:=hF.cell 7 (v:=.int .i64 c.ep) rfl;rw[gS]at k6 k7;have HF:=zI hF;have HP:=zI (yI ay (yI hS (yI hP hI)));have HX:=zI (yI eQ (yI NP (yI pH Uf)));have EE:=zI ux;obtain⟨b1,bO⟩:∃b,b=decide (fx∈h.rg):=⟨_,rfl⟩;obtain⟨fo,YM⟩:∃o,o=ED h.rg c.pre:=⟨_,rfl⟩
 have PO:c.pre≠[]->jf h c.pre c.ep=if b1=true then zy h c.pre c.ep else DL h c.pre c.ep fo:=λhp=>by
  rw[bO,YM,ux];exact PN hp
 have mE:=zI PO;have HB:=zI (yI bO YM);clear ay hS hP hI hF eQ NP pH Uf ux bO YM PO cC;by_cases EP:c.pre=[]
 ·rw[EP]at k6
  have HD:=zI (show jf h c.pre c.ep=(h,.no 1) from by unfold jf;rw[if_pos EP])
  clear EP;go_enter func90,ntmps90
  go_wp2_with fail
  rw[<-gS];clear gS k6 k7;refine(bF 1 _).mono ?_;rintro e Hu⟨rfl,f9⟩;have F9:=zI (HF.later f9);clear f9;go_wp2_with (refine ak rfl aT _ _ rfl _ _ rfl rfl (aA bw (cs:=aC (.no 1) nS nS nS nS nS) F9.rs rfl rfl (aD ⟨⟨none,0,0,rfl⟩,⟨none,0,0,rfl⟩,⟨none,0,0,rfl⟩,⟨none,0,0,rfl⟩,⟨none,0,0,rfl⟩⟩)) ?_)
  obtain⟨z0,z1,z2,z3,z4,z5,z6,z7,z8,z9⟩:=bj (aj (cs:=aC (.no 1) nS nS nS nS nS) F9.rs);have HE:=zI (bN.fin (r:=(h,.no 1)) F9.fp.any F9.rs HP.1 (HP.2.1.af F9.fp) (ej.ok Hu 1 0 false 0));generalize World.setRow Hu (w.heap.size+1) (aC (.no 1) nS nS nS nS nS)=wz at *;go_wp2;refine bodyPost_ret (v:=.agg (aC (.no 1) nS nS nS nS nS)) (by simp[results,results90,go_sem,z0,z1,z2,z3,z4,z5,z6,z7,z8,z9,aC]) rfl ?_
  rw[HD.out];exact HE.out
 obtain⟨p0,pr,dP⟩:∃p0 pr,c.pre=p0::pr:=by
  cases e:c.pre with
  |nil=>exact absurd e EP
  |cons a b=>exact⟨a,b,rfl⟩
 rw[dP]at k6;have y7:=zI dP;have Ug:=zI (mE EP);clear EP mE dP;go_enter func90,ntmps90
 obtain⟨b5,yT⟩:∃b,b=w.heap.size+1+1:=⟨_,rfl⟩;have Uh:W2.heap.size=b5:=by rw[gS,yT];simp
 go_wp2_with fail
 rw[<-gS];clear gS;have La:=zI (heap_alloc_new W2 (.cells #[.string (B (p0::pr)),.int .i64 c.ep,.int .i64 2] dx));have F3:=zI (HF.later (aa W2 (.cells #[.string (B (p0::pr)),.int .i64 c.ep,.int .i64 2] dx)));rw[Uh]at La;simp only[<-yT]
 have Ys:=zI yT;clear k6 k7 yT Uh;generalize EM:(World.alloc W2 _)=w3 at *;have YN:=zI (show w3.heap[b5]?=some (.cells #[.string (B fx.d),.int .i64 fx.t,.int .i64 fx.a] dx (0,0)) from by rw[EE.out];simp only[y7.out];exact La.out)
 have Dm:=zI (λW (f:Fp ab w3 W)=>yI ((HP.2.2.1.af (F3.later f).fp).cell 2 (v:=.slice ar nr cr) rfl) (Ue (f.heap YN id)))
 clear EM La;refine wp_region_held_drew (S:=(λw'=>w'.cell? ⟨q,2,none⟩=some (.slice ar nr cr)/\w'.cell? ⟨b5,0,none⟩=some (.string (B fx.d))/\w'.cell? ⟨b5,1,none⟩=some (.int .i64 fx.t)/\w'.cell? ⟨b5,2,none⟩=some (.int .i64 fx.a))) (by kernel_rfl) ?_ (λhH=>?_)
 ·exact Dm _ ((Fp.refl ab _).drew)
 refine aF 0 hH ?_;refine aF 1 hH ?_;refine aF 2 hH ?_;refine aF 3 hH ?_;refine aF 4 hH ?_;refine rY 5 (λK hK=>?_)
 go_simp;refine(HX.1 _ _ _ (HP.2.2.1.v.r.af (F3.fp.drew)) (by have:=HP.2.2.2.rg.len;omega)).mono ?_
 rintro e w4⟨rfl,f4⟩;have f4:=zI (((Fp.refl ab _).drew).then f4);have F4:=zI (F3.later f4.out);rw[<-HB.1];go_wp2_with fail
 refine hK _ _ (Dm _ f4.out) (λhH=>?_)
 clear hK K;try simp only[zz]
 refine aF 6 hH ?_;refine yD ?_;clear hH;have XA:=zI (f4.heap YN id);clear Dm YN;cases b1 with
 |true=>
  have HD:=zI (show jf h c.pre c.ep=zy h c.pre c.ep from by rw[Ug.out,if_pos rfl])
  have P4:=zI (HP.2.2.1.af F4.fp);have RS4:=zI F4.rs;have CB4:=zI F4.cb;have Q7:=zI (F4.fp.any (S:=Bk q a x d));have bg:=zI (λW (f:Fp ab w4 W)=>yI ((P4.af f).cell 0 (v:=.slice g1 g2 g3) rfl) (yI ((P4.af f).cell 1 (v:=.slice g4 g5 g6) rfl) (yI ((P4.af f).cell 2 (v:=(.slice ar nr cr)) rfl) (pQ (f.heap CB4 id) 6 (v:=.string (B c.pre)) rfl))))
  go_wp2_with fail
  go_cut [8,9] from 52 to 65 (λx8 x9 wc=>∃(b8 b9:Nat) (c1:Option Addr) (c2 c3:Nat) (c4:Option Addr) (c5 c6:Nat),x8=.pointer (some ⟨b8,0,none⟩)/\x9=.pointer (some ⟨b9,0,none⟩)/\Hid (zl w4 (jJ h.st h.rg c.pre) b8 (.slice c1 c2 c3) (.slice c4 c5 c6) wc))
  case first=>
   have Fw:=zI ((Fp.refl ab w4).drew);refine wp_region_held_drew (S:=(λw'=>w'.cell? ⟨q,0,none⟩=some (.slice g1 g2 g3)/\w'.cell? ⟨q,1,none⟩=some (.slice g4 g5 g6)/\w'.cell? ⟨q,2,none⟩=some (.slice ar nr cr)/\w'.cell? ⟨w.heap.size,6,none⟩=some (.string (B c.pre)))) (by kernel_rfl) ?_ (λhH=>?_)
   ·exact bg _ ((Fp.refl ab _).drew)
   refine aF 0 hH ?_;refine aF 1 hH ?_;refine aF 2 hH ?_;refine aF 3 hH ?_;refine aF 4 hH ?_;refine aF 5 hH ?_;refine aF 6 hH ?_;refine aF 7 hH ?_;refine aF 8 hH ?_;refine aF 9 hH ?_;refine PI 10 14 15 (λK hK=>?_) (λK hK=>?_) (λK hK=>?_)
   ·go_simp
    refine(HX.2.2.1 (.slice ar nr cr) _ _ (Q7.then Fw.out) ((P4.af Fw.out).v.r) HP.2.2.2.rg HP.2.2.2.Ni).mono ?_;rintro e rS hR;obtain⟨v1,u1,v2,u2,rfl,o1,o2,o3,o4⟩:=hR.ex;have f1:=zI hR.fp;have Fw:=zI (Fw.then f1.out);obtain⟨kY,ir,kZ,rfl⟩:=o1.eL;obtain⟨la,lf,lg,rfl⟩:∃a n c,u1=Value.slice a n c:=by obtain⟨a,c,e⟩:=o2.shape;exact⟨a,_,c,e⟩
    obtain⟨sx,sy,sB,rfl⟩:=o3.eL;obtain⟨sC,sD,sE,rfl⟩:∃a n c,u2=Value.slice a n c:=by obtain⟨a,c,e⟩:=o4.shape;exact⟨a,_,c,e⟩
    have AA:=zI (yI o1 o2);clear hR o1 o2 o3 o4;go_wp2_with fail
    refine hK _ _ (bg _ Fw.out) (λhH=>?_)
    clear hK K;try simp only[zz]
    refine aF 11 hH ?_;refine aF 12 hH ?_;refine aF 13 hH ?_;refine JG 14 15 (λK hK=>?_) (λK hK=>?_)
    ·go_simp
     have dj:=zI (heap_alloc_new rS (.cells #[.slice none 0 0,.slice none 0 0] aM));have f1:=zI (aa rS (.cells #[.slice none 0 0,.slice none 0 0] aM));have sF:=zI Fw.size;have Fw:=zI (Fw.then f1.out);have AA:=zI (yI (AA.1.af (f1.out)) (AA.2.af (f1.out)));go_wp2_with fail
     refine hK _ _ (bg _ Fw.out) (λhH=>?_)
     clear hK K;try simp only[zz]
     generalize (World.alloc rS (.cells #[.slice none 0 0,.slice none 0 0] aM))=ph at *;refine rY 15 (λK hK=>?_)
     go_simp;have NE:=zI (show ph.heap.size≠rS.heap.size from λe=>by have h:=(Array.getElem?_eq_some_iff.1 dj.out).1;omega)
     have dm:=zI (heap_alloc_new ph (.cells #[.slice none 0 0,.slice none 0 0] aM));have f1:=zI (aa ph (.cells #[.slice none 0 0,.slice none 0 0] aM));have sG:=zI Fw.size;have Fw:=zI (Fw.then f1.out);have AA:=zI (yI (AA.1.af (f1.out)) (AA.2.af (f1.out)));have dj:=zI ((f1.out).heap dj id);go_wp2_with fail
     refine hK _ _ (bg _ Fw.out) (λhH=>?_)
     clear hK K;try simp only[zz]
     generalize (World.alloc ph (.cells #[.slice none 0 0,.slice none 0 0] aM))=xO at *;obtain⟨dE,bJ⟩:∃b,b=rS.heap.size:=⟨_,rfl⟩;obtain⟨km,bK⟩:∃b,b=ph.heap.size:=⟨_,rfl⟩;have ko:=zI (show km≠dE from by rw[bJ,bK];exact NE.out)
     have dF:=zI (show w4.heap.size<=dE from by rw[bJ];exact sF.out)
     have gM:=zI (show w4.heap.size<=km from by rw[bK];exact sG.out)
     rw[<-bJ]at dj|-;rw[<-bK]at dm|-;clear bJ bK NE;refine rY 16 (λK hK=>?_)
     refine step_st rfl aM _ _ rfl _ _ rfl rfl (aA dD dj rfl rfl (by intro u hu;simp only[List.mem_cons,List.not_mem_nil,or_false]at hu;rcases hu with rfl|rfl<;>rfl)) ?_
     have Fx:=zI (Fw.trans (av xO dE #[.slice kY ir kZ,.slice la lf lg]) (λk hk=>.inr (by have h:=dF.out;have hk:k=dE:=hk;omega)))
     have Rx:=zI ((av xO dE #[.slice kY ir kZ,.slice la lf lg]).heap dm ko.out);refine hK _ _ (bg _ Fx.out) (λhH=>?_)
     clear hK K;try simp only[zz]
     refine rY 17 (λK hK=>?_)
     refine step_st rfl aM _ _ rfl _ _ rfl rfl (aA dD Rx rfl rfl (by intro u hu;simp only[List.mem_cons,List.not_mem_nil,or_false]at hu;rcases hu with rfl|rfl<;>rfl)) ?_
     have MM:=zI (zl.end (s:=jJ h.st h.rg c.pre) (v2:=.slice sx sy sB) (u2:=.slice sC sD sE) Fw dj dm ko dF gM AA.1 AA.2);refine hK _ _ (bg _ MM.fp) (λhH=>?_)
     clear hK K;try simp only[zz]
     refine yD ?_;go_wp2_with fail
     go_meet
     case rel=>exact⟨_,_,_,_,_,_,_,_,rfl,rfl,MM⟩
    go_simp;have dm:=zI (heap_alloc_new rS (.cells #[.slice none 0 0,.slice none 0 0] aM));have f1:=zI (aa rS (.cells #[.slice none 0 0,.slice none 0 0] aM));have sG:=zI Fw.size;have Fw:=zI (Fw.then f1.out);have AA:=zI (yI (AA.1.af (f1.out)) (AA.2.af (f1.out)));go_wp2_with fail
    refine hK _ _ (bg _ Fw.out) (λhH=>?_)
    clear hK K;try simp only[zz]
    generalize (World.alloc rS (.cells #[.slice none 0 0,.slice none 0 0] aM))=ph at *;refine rY 14 (λK hK=>?_)
    go_simp;have NE:=zI (show ph.heap.size≠rS.heap.size from λe=>by have h:=(Array.getElem?_eq_some_iff.1 dm.out).1;omega)
    have dj:=zI (heap_alloc_new ph (.cells #[.slice none 0 0,.slice none 0 0] aM));have f1:=zI (aa ph (.cells #[.slice none 0 0,.slice none 0 0] aM));have sF:=zI Fw.size;have Fw:=zI (Fw.then f1.out);have AA:=zI (yI (AA.1.af (f1.out)) (AA.2.af (f1.out)));have dm:=zI ((f1.out).heap dm id);go_wp2_with fail
    refine hK _ _ (bg _ Fw.out) (λhH=>?_)
    clear hK K;try simp only[zz]
    generalize (World.alloc ph (.cells #[.slice none 0 0,.slice none 0 0] aM))=xO at *;obtain⟨dE,bJ⟩:∃b,b=ph.heap.size:=⟨_,rfl⟩;obtain⟨km,bK⟩:∃b,b=rS.heap.size:=⟨_,rfl⟩;have ko:=zI (show km≠dE from by rw[bJ,bK];exact NE.symm)
    have dF:=zI (show w4.heap.size<=dE from by rw[bJ];exact sF.out)
    have gM:=zI (show w4.heap.size<=km from by rw[bK];exact sG.out)
    rw[<-bJ]at dj|-;rw[<-bK]at dm|-;clear bJ bK NE;refine rY 16 (λK hK=>?_)
    refine step_st rfl aM _ _ rfl _ _ rfl rfl (aA dD dj rfl rfl (by intro u hu;simp only[List.mem_cons,List.not_mem_nil,or_false]at hu;rcases hu with rfl|rfl<;>rfl)) ?_
    have Fx:=zI (Fw.trans (av xO dE #[.slice kY ir kZ,.slice la lf lg]) (λk hk=>.inr (by have h:=dF.out;have hk:k=dE:=hk;omega)))
    have Rx:=zI ((av xO dE #[.slice kY ir kZ,.slice la lf lg]).heap dm ko.out);refine hK _ _ (bg _ Fx.out) (λhH=>?_)
    clear hK K;try simp only[zz]
    refine rY 17 (λK hK=>?_)
    refine step_st rfl aM _ _ rfl _ _ rfl rfl (aA dD Rx rfl rfl (by intro u hu;simp only[List.mem_cons,List.not_mem_nil,or_false]at hu;rcases hu with rfl|rfl<;>rfl)) ?_
    have MM:=zI (zl.end (s:=jJ h.st h.rg c.pre) (v2:=.slice sx sy sB) (u2:=.slice sC sD sE) Fw dj dm ko dF gM AA.1 AA.2);refine hK _ _ (bg _ MM.fp) (λhH=>?_)
    clear hK K;try simp only[zz]
    refine yD ?_;go_wp2_with fail
    go_meet
    case rel=>exact⟨_,_,_,_,_,_,_,_,rfl,rfl,MM⟩
   ·go_simp
    have dj:=zI (show((World.alloc w4 (.cells #[.slice none 0 0,.slice none 0 0] aM)).drew).heap[w4.heap.size]?=_ from heap_alloc_new w4 (.cells #[.slice none 0 0,.slice none 0 0] aM));have f1:=zI ((aa w4 (.cells #[.slice none 0 0,.slice none 0 0] aM)).drew);have Fw:=zI f1.out;have sF:=zI (Nat.le_refl w4.heap.size);go_wp2_with fail
    refine hK _ _ (bg _ Fw.out) (λhH=>?_)
    clear hK K;try simp only[zz]
    generalize ((World.alloc w4 (.cells #[.slice none 0 0,.slice none 0 0] aM)).drew)=rS at *;refine JG 10 15 (λK hK=>?_) (λK hK=>?_)
    ·go_simp
     refine(HX.2.2.1 (.slice ar nr cr) _ _ (Q7.then Fw.out) ((P4.af Fw.out).v.r) HP.2.2.2.rg HP.2.2.2.Ni).mono ?_;rintro e ph hR;obtain⟨v1,u1,v2,u2,rfl,o1,o2,o3,o4⟩:=hR.ex;have f1:=zI hR.fp;have Fw:=zI (Fw.then f1.out);have dj:=zI ((f1.out).heap dj id);obtain⟨kY,ir,kZ,rfl⟩:=o1.eL;obtain⟨la,lf,lg,rfl⟩:∃a n c,u1=Value.slice a n c:=by obtain⟨a,c,e⟩:=o2.shape;exact⟨a,_,c,e⟩
     obtain⟨sx,sy,sB,rfl⟩:=o3.eL;obtain⟨sC,sD,sE,rfl⟩:∃a n c,u2=Value.slice a n c:=by obtain⟨a,c,e⟩:=o4.shape;exact⟨a,_,c,e⟩
     have AA:=zI (yI o1 o2);clear hR o1 o2 o3 o4;go_wp2_with fail
     refine hK _ _ (bg _ Fw.out) (λhH=>?_)
     clear hK K;try simp only[zz]
     refine aF 11 hH ?_;refine aF 12 hH ?_;refine aF 13 hH ?_;refine rY 15 (λK hK=>?_)
     go_simp;have NE:=zI (show ph.heap.size≠w4.heap.size from λe=>by have h:=(Array.getElem?_eq_some_iff.1 dj.out).1;omega)
     have dm:=zI (heap_alloc_new ph (.cells #[.slice none 0 0,.slice none 0 0] aM));have f1:=zI (aa ph (.cells #[.slice none 0 0,.slice none 0 0] aM));have sG:=zI Fw.size;have Fw:=zI (Fw.then f1.out);have dj:=zI ((f1.out).heap dj id);have AA:=zI (yI (AA.1.af (f1.out)) (AA.2.af (f1.out)));go_wp2_with fail
     refine hK _ _ (bg _ Fw.out) (λhH=>?_)
     clear hK K;try simp only[zz]
     generalize (World.alloc ph (.cells #[.slice none 0 0,.slice none 0 0] aM))=xO at *;obtain⟨dE,bJ⟩:∃b,b=w4.heap.size:=⟨_,rfl⟩;obtain⟨km,bK⟩:∃b,b=ph.heap.size:=⟨_,rfl⟩;have ko:=zI (show km≠dE from by rw[bJ,bK];exact NE.out)
     have dF:=zI (show w4.heap.size<=dE from by rw[bJ];exact sF.out)
     have gM:=zI (show w4.heap.size<=km from by rw[bK];exact sG.out)
     rw[<-bJ]at dj|-;rw[<-bK]at dm|-;clear bJ bK NE;refine rY 16 (λK hK=>?_)
     refine step_st rfl aM _ _ rfl _ _ rfl rfl (aA dD dj rfl rfl (by intro u hu;simp only[List.mem_cons,List.not_mem_nil,or_false]at hu;rcases hu with rfl|rfl<;>rfl)) ?_
     have Fx:=zI (Fw.trans (av xO dE #[.slice kY ir kZ,.slice la lf lg]) (λk hk=>.inr (by have h:=dF.out;have hk:k=dE:=hk;omega)))
     have Rx:=zI ((av xO dE #[.slice kY ir kZ,.slice la lf lg]).heap dm ko.out);refine hK _ _ (bg _ Fx.out) (λhH=>?_)
     clear hK K;try simp only[zz]
     refine rY 17 (λK hK=>?_)
     refine step_st rfl aM _ _ rfl _ _ rfl rfl (aA dD Rx rfl rfl (by intro u hu;simp only[List.mem_cons,List.not_mem_nil,or_false]at hu;rcases hu with rfl|rfl<;>rfl)) ?_
     have MM:=zI (zl.end (s:=jJ h.st h.rg c.pre) (v2:=.slice sx sy sB) (u2:=.slice sC sD sE) Fw dj dm ko dF gM AA.1 AA.2);refine hK _ _ (bg _ MM.fp) (λhH=>?_)
     clear hK K;try simp only[zz]
     refine yD ?_;go_wp2_with fail
     go_meet
     case rel=>exact⟨_,_,_,_,_,_,_,_,rfl,rfl,MM⟩
    go_simp;have NE:=zI (show rS.heap.size≠w4.heap.size from λe=>by have h:=(Array.getElem?_eq_some_iff.1 dj.out).1;omega)
    have dm:=zI (heap_alloc_new rS (.cells #[.slice none 0 0,.slice none 0 0] aM));have f1:=zI (aa rS (.cells #[.slice none 0 0,.slice none 0 0] aM));have sG:=zI Fw.size;have Fw:=zI (Fw.then f1.out);have dj:=zI ((f1.out).heap dj id);go_wp2_with fail
    refine hK _ _ (bg _ Fw.out) (λhH=>?_)
    clear hK K;try simp only[zz]
    generalize (World.alloc rS (.cells #[.slice none 0 0,.slice none 0 0] aM))=ph at *;refine rY 10 (λK hK=>?_)
    go_simp;refine(HX.2.2.1 (.slice ar nr cr) _ _ (Q7.then Fw.out) ((P4.af Fw.out).v.r) HP.2.2.2.rg HP.2.2.2.Ni).mono ?_;rintro e xO hR;obtain⟨v1,u1,v2,u2,rfl,o1,o2,o3,o4⟩:=hR.ex;have f1:=zI hR.fp;have Fw:=zI (Fw.then f1.out);have dj:=zI ((f1.out).heap dj id);have dm:=zI ((f1.out).heap dm id);obtain⟨kY,ir,kZ,rfl⟩:=o1.eL;obtain⟨la,lf,lg,rfl⟩:∃a n c,u1=Value.slice a n c:=by obtain⟨a,c,e⟩:=o2.shape;exact⟨a,_,c,e⟩
    obtain⟨sx,sy,sB,rfl⟩:=o3.eL;obtain⟨sC,sD,sE,rfl⟩:∃a n c,u2=Value.slice a n c:=by obtain⟨a,c,e⟩:=o4.shape;exact⟨a,_,c,e⟩
    have AA:=zI (yI o1 o2);clear hR o1 o2 o3 o4;go_wp2_with fail
    refine hK _ _ (bg _ Fw.out) (λhH=>?_)
    clear hK K;try simp only[zz]
    refine aF 11 hH ?_;refine aF 12 hH ?_;refine aF 13 hH ?_;obtain⟨dE,bJ⟩:∃b,b=w4.heap.size:=⟨_,rfl⟩;obtain⟨km,bK⟩:∃b,b=rS.heap.size:=⟨_,rfl⟩;have ko:=zI (show km≠dE from by rw[bJ,bK];exact NE.out)
    have dF:=zI (show w4.heap.size<=dE from by rw[bJ];exact sF.out)
    have gM:=zI (show w4.heap.size<=km from by rw[bK];exact sG.out)
    rw[<-bJ]at dj|-;rw[<-bK]at dm|-;clear bJ bK NE;refine rY 16 (λK hK=>?_)
    refine step_st rfl aM _ _ rfl _ _ rfl rfl (aA dD dj rfl rfl (by intro u hu;simp only[List.mem_cons,List.not_mem_nil,or_false]at hu;rcases hu with rfl|rfl<;>rfl)) ?_
    have Fx:=zI (Fw.trans (av xO dE #[.slice kY ir kZ,.slice la lf lg]) (λk hk=>.inr (by have h:=dF.out;have hk:k=dE:=hk;omega)))
    have Rx:=zI ((av xO dE #[.slice kY ir kZ,.slice la lf lg]).heap dm ko.out);refine hK _ _ (bg _ Fx.out) (λhH=>?_)
    clear hK K;try simp only[zz]
    refine rY 17 (λK hK=>?_)
    refine step_st rfl aM _ _ rfl _ _ rfl rfl (aA dD Rx rfl rfl (by intro u hu;simp only[List.mem_cons,List.not_mem_nil,or_false]at hu;rcases hu with rfl|rfl<;>rfl)) ?_
    have MM:=zI (zl.end (s:=jJ h.st h.rg c.pre) (v2:=.slice sx sy sB) (u2:=.slice sC sD sE) Fw dj dm ko dF gM AA.1 AA.2);refine hK _ _ (bg _ MM.fp) (λhH=>?_)
    clear hK K;try simp only[zz]
    refine yD ?_;go_wp2_with fail
    go_meet
    case rel=>exact⟨_,_,_,_,_,_,_,_,rfl,rfl,MM⟩
   go_simp;have dm:=zI (show((World.alloc w4 (.cells #[.slice none 0 0,.slice none 0 0] aM)).drew).heap[w4.heap.size]?=_ from heap_alloc_new w4 (.cells #[.slice none 0 0,.slice none 0 0] aM));have f1:=zI ((aa w4 (.cells #[.slice none 0 0,.slice none 0 0] aM)).drew);have Fw:=zI f1.out;have sG:=zI (Nat.le_refl w4.heap.size);go_wp2_with fail
   refine hK _ _ (bg _ Fw.out) (λhH=>?_)
   clear hK K;try simp only[zz]
   generalize ((World.alloc w4 (.cells #[.slice none 0 0,.slice none 0 0] aM)).drew)=rS at *;refine JG 10 14 (λK hK=>?_) (λK hK=>?_)
   ·go_simp
    refine(HX.2.2.1 (.slice ar nr cr) _ _ (Q7.then Fw.out) ((P4.af Fw.out).v.r) HP.2.2.2.rg HP.2.2.2.Ni).mono ?_;rintro e ph hR;obtain⟨v1,u1,v2,u2,rfl,o1,o2,o3,o4⟩:=hR.ex;have f1:=zI hR.fp;have Fw:=zI (Fw.then f1.out);have dm:=zI ((f1.out).heap dm id);obtain⟨kY,ir,kZ,rfl⟩:=o1.eL;obtain⟨la,lf,lg,rfl⟩:∃a n c,u1=Value.slice a n c:=by obtain⟨a,c,e⟩:=o2.shape;exact⟨a,_,c,e⟩
    obtain⟨sx,sy,sB,rfl⟩:=o3.eL;obtain⟨sC,sD,sE,rfl⟩:∃a n c,u2=Value.slice a n c:=by obtain⟨a,c,e⟩:=o4.shape;exact⟨a,_,c,e⟩
    have AA:=zI (yI o1 o2);clear hR o1 o2 o3 o4;go_wp2_with fail
    refine hK _ _ (bg _ Fw.out) (λhH=>?_)
    clear hK K;try simp only[zz]
    refine aF 11 hH ?_;refine aF 12 hH ?_;refine aF 13 hH ?_;refine rY 14 (λK hK=>?_)
    go_simp;have NE:=zI (show ph.heap.size≠w4.heap.size from λe=>by have h:=(Array.getElem?_eq_some_iff.1 dm.out).1;omega)
    have dj:=zI (heap_alloc_new ph (.cells #[.slice none 0 0,.slice none 0 0] aM));have f1:=zI (aa ph (.cells #[.slice none 0 0,.slice none 0 0] aM));have sF:=zI Fw.size;have Fw:=zI (Fw.then f1.out);have dm:=zI ((f1.out).heap dm id);have AA:=zI (yI (AA.1.af (f1.out)) (AA.2.af (f1.out)));go_wp2_with fail
    refine hK _ _ (bg _ Fw.out) (λhH=>?_)
    clear hK K;try simp only[zz]
    generalize (World.alloc ph (.cells #[.slice none 0 0,.slice none 0 0] aM))=xO at *;obtain⟨dE,bJ⟩:∃b,b=ph.heap.size:=⟨_,rfl⟩;obtain⟨km,bK⟩:∃b,b=w4.heap.size:=⟨_,rfl⟩;have ko:=zI (show km≠dE from by rw[bJ,bK];exact NE.symm)
    have dF:=zI (show w4.heap.size<=dE from by rw[bJ];exact sF.out)
    have gM:=zI (show w4.heap.size<=km from by rw[bK];exact sG.out)
    rw[<-bJ]at dj|-;rw[<-bK]at dm|-;clear bJ bK NE;refine rY 16 (λK hK=>?_)
    refine step_st rfl aM _ _ rfl _ _ rfl rfl (aA dD dj rfl rfl (by intro u hu;simp only[List.mem_cons,List.not_mem_nil,or_false]at hu;rcases hu with rfl|rfl<;>rfl)) ?_
    have Fx:=zI (Fw.trans (av xO dE #[.slice kY ir kZ,.slice la lf lg]) (λk hk=>.inr (by have h:=dF.out;have hk:k=dE:=hk;omega)))
    have Rx:=zI ((av xO dE #[.slice kY ir kZ,.slice la lf lg]).heap dm ko.out);refine hK _ _ (bg _ Fx.out) (λhH=>?_)
    clear hK K;try simp only[zz]
    refine rY 17 (λK hK=>?_)
    refine step_st rfl aM _ _ rfl _ _ rfl rfl (aA dD Rx rfl rfl (by intro u hu;simp only[List.mem_cons,List.not_mem_nil,or_false]at hu;rcases hu with rfl|rfl<;>rfl)) ?_
    have MM:=zI (zl.end (s:=jJ h.st h.rg c.pre) (v2:=.slice sx sy sB) (u2:=.slice sC sD sE) Fw dj dm ko dF gM AA.1 AA.2);refine hK _ _ (bg _ MM.fp) (λhH=>?_)
    clear hK K;try simp only[zz]
    refine yD ?_;go_wp2_with fail
    go_meet
    case rel=>exact⟨_,_,_,_,_,_,_,_,rfl,rfl,MM⟩
   go_simp;have NE:=zI (show rS.heap.size≠w4.heap.size from λe=>by have h:=(Array.getElem?_eq_some_iff.1 dm.out).1;omega)
   have dj:=zI (heap_alloc_new rS (.cells #[.slice none 0 0,.slice none 0 0] aM));have f1:=zI (aa rS (.cells #[.slice none 0 0,.slice none 0 0] aM));have sF:=zI Fw.size;have Fw:=zI (Fw.then f1.out);have dm:=zI ((f1.out).heap dm id);go_wp2_with fail
   refine hK _ _ (bg _ Fw.out) (λhH=>?_)
   clear hK K;try simp only[zz]
   generalize (World.alloc rS (.cells #[.slice none 0 0,.slice none 0 0] aM))=ph at *;refine rY 10 (λK hK=>?_)
   go_simp;refine(HX.2.2.1 (.slice ar nr cr) _ _ (Q7.then Fw.out) ((P4.af Fw.out).v.r) HP.2.2.2.rg HP.2.2.2.Ni).mono ?_;rintro e xO hR;obtain⟨v1,u1,v2,u2,rfl,o1,o2,o3,o4⟩:=hR.ex;have f1:=zI hR.fp;have Fw:=zI (Fw.then f1.out);have dm:=zI ((f1.out).heap dm id);have dj:=zI ((f1.out).heap dj id);obtain⟨kY,ir,kZ,rfl⟩:=o1.eL;obtain⟨la,lf,lg,rfl⟩:∃a n c,u1=Value.slice a n c:=by obtain⟨a,c,e⟩:=o2.shape;exact⟨a,_,c,e⟩
   obtain⟨sx,sy,sB,rfl⟩:=o3.eL;obtain⟨sC,sD,sE,rfl⟩:∃a n c,u2=Value.slice a n c:=by obtain⟨a,c,e⟩:=o4.shape;exact⟨a,_,c,e⟩
   have AA:=zI (yI o1 o2);clear hR o1 o2 o3 o4;go_wp2_with fail
   refine hK _ _ (bg _ Fw.out) (λhH=>?_)
   clear hK K;try simp only[zz]
   refine aF 11 hH ?_;refine aF 12 hH ?_;refine aF 13 hH ?_;obtain⟨dE,bJ⟩:∃b,b=rS.heap.size:=⟨_,rfl⟩;obtain⟨km,bK⟩:∃b,b=w4.heap.size:=⟨_,rfl⟩;have ko:=zI (show km≠dE from by rw[bJ,bK];exact NE.symm)
   have dF:=zI (show w4.heap.size<=dE from by rw[bJ];exact sF.out)
   have gM:=zI (show w4.heap.size<=km from by rw[bK];exact sG.out)
   rw[<-bJ]at dj|-;rw[<-bK]at dm|-;clear bJ bK NE;refine rY 16 (λK hK=>?_)
   refine step_st rfl aM _ _ rfl _ _ rfl rfl (aA dD dj rfl rfl (by intro u hu;simp only[List.mem_cons,List.not_mem_nil,or_false]at hu;rcases hu with rfl|rfl<;>rfl)) ?_
   have Fx:=zI (Fw.trans (av xO dE #[.slice kY ir kZ,.slice la lf lg]) (λk hk=>.inr (by have h:=dF.out;have hk:k=dE:=hk;omega)))
   have Rx:=zI ((av xO dE #[.slice kY ir kZ,.slice la lf lg]).heap dm ko.out);refine hK _ _ (bg _ Fx.out) (λhH=>?_)
   clear hK K;try simp only[zz]
   refine rY 17 (λK hK=>?_)
   refine step_st rfl aM _ _ rfl _ _ rfl rfl (aA dD Rx rfl rfl (by intro u hu;simp only[List.mem_cons,List.not_mem_nil,or_false]at hu;rcases hu with rfl|rfl<;>rfl)) ?_
   have MM:=zI (zl.end (s:=jJ h.st h.rg c.pre) (v2:=.slice sx sy sB) (u2:=.slice sC sD sE) Fw dj dm ko dF gM AA.1 AA.2);refine hK _ _ (bg _ MM.fp) (λhH=>?_)
   clear hK K;try simp only[zz]
   refine yD ?_;go_wp2_with fail
   go_meet
   case rel=>exact⟨_,_,_,_,_,_,_,_,rfl,rfl,MM⟩
  obtain⟨b8,b9,c1,c2,c3,c4,c5,c6,rfl,rfl,MM⟩:=hcut;have y0:=(Lq MM.row).1;have y1:=(Lq MM.row).2;have k7:=pQ (MM.fp.heap CB4 id) 7 (v:=.int .i64 c.ep) rfl;have PQ:=zI (MM.fp.heap RS4 id);have Pz:=zI (P4.af MM.fp);have Fz:=zI (show Fp (Bk q a x d) w wc from Q7.then MM.fp);obtain⟨an,iQ⟩:∃z:ck,z={ ck.ok with ep:=c.ep,st:=jJ h.st h.rg c.pre }:=⟨_,rfl⟩
  have zj:=zI iQ;have Az:=zI (show ej wc an (.slice none 0 0) (.slice c1 c2 c3) (.slice c4 c5 c6) nS nS from by rw[zj.out];exact⟨(ej.ok wc 0 0 false 0).r,MM.n,MM.t,mB.nil wc,0,dT.nil 0 wc⟩)
  have zk:=HD;clear HD iQ;have HD:=zI (show jf h c.pre c.ep=(h,an) from by rw[zk.out,zj.out];rfl)
  clear zk;go_wp2_with (refine ak rfl aT _ _ rfl _ _ rfl rfl (aA bw (cs:=aC { ck.ok with ep:=c.ep } (.slice none 0 0) (.slice c1 c2 c3) (.slice c4 c5 c6) nS nS) PQ rfl rfl (aD ⟨⟨none,0,0,rfl⟩,⟨_,_,_,rfl⟩,⟨_,_,_,rfl⟩,⟨none,0,0,rfl⟩,⟨none,0,0,rfl⟩⟩)) ?_)
  have qM:aC { ck.ok with ep:=c.ep } (.slice none 0 0) (.slice c1 c2 c3) (.slice c4 c5 c6) nS nS=aC an (.slice none 0 0) (.slice c1 c2 c3) (.slice c4 c5 c6) nS nS:=by rw[zj.out];rfl
  rw[qM];clear qM;obtain⟨z0,z1,z2,z3,z4,z5,z6,z7,z8,z9⟩:=bj (aj (cs:=aC an (.slice none 0 0) (.slice c1 c2 c3) (.slice c4 c5 c6) nS nS) PQ.out);have HE:=zI (bN.fin (r:=(h,an)) Fz PQ HP.1 ⟨_,_,_,_,_,_,Pz.out⟩ Az.out);generalize World.setRow wc (w.heap.size+1) (aC an (.slice none 0 0) (.slice c1 c2 c3) (.slice c4 c5 c6) nS nS)=wz at *;go_wp2;refine bodyPost_ret (v:=.agg (aC an (.slice none 0 0) (.slice c1 c2 c3) (.slice c4 c5 c6) nS nS)) (by simp[results,results90,go_sem,z0,z1,z2,z3,z4,z5,z6,z7,z8,z9,aC]) rfl ?_
  rw[HD.out];exact HE.out
 |false=>?_
 have dQ:=zI (λW (f:Fp ab w4 W)=>yI ((HP.2.2.1.af (F4.later f).fp).cell 2 (v:=.slice ar nr cr) rfl) ((F4.later f).cell 6 (v:=.string (B c.pre)) rfl))
 go_wp2_with fail
 go_cut [6,7] from 26 to 35 (λx6 x7 wc=>∃(b6:Nat) (d1:Option Addr) (d2 d3:Nat),x6=.pointer (some ⟨b6,0,none⟩)/\x7=.bool fo.isSome/\Hid (Uc w4 fo b6 (.slice d1 d2 d3) wc))
 case first=>
  have Fw:=zI ((Fp.refl ab w4).drew);refine wp_region_held_drew (S:=(λw'=>w'.cell? ⟨q,2,none⟩=some (.slice ar nr cr)/\w'.cell? ⟨w.heap.size,6,none⟩=some (.string (B c.pre)))) (by kernel_rfl) ?_ (λhH=>?_)
  ·exact dQ _ ((Fp.refl ab _).drew)
  refine aF 0 hH ?_;refine aF 1 hH ?_;refine aF 2 hH ?_;refine aF 3 hH ?_;refine aF 4 hH ?_;refine aF 5 hH ?_;refine JG 6 10 (λK hK=>?_) (λK hK=>?_)
  ·go_simp
   refine(HX.2.1 _ ((F4.later Fw.out).fp)).mono ?_;rintro e Ui hR;obtain⟨v6,rfl,o1⟩:=hR.ex;have f1:=zI hR.fp;have Fw:=zI (Fw.then f1.out);rw[<-HB.2]at o1|-;obtain⟨a6,n6,c6,rfl⟩:∃a n c,v6=.slice a n c:=by obtain⟨a,c,e⟩:=o1.shape;exact⟨a,_,c,e⟩
   have AA:=zI o1;clear hR o1;go_wp2_with fail
   refine hK _ _ (dQ _ Fw.out) (λhH=>?_)
   clear hK K;try simp only[zz]
   refine aF 7 hH ?_;refine aF 8 hH ?_;refine aF 9 hH ?_;refine rY 10 (λK hK=>?_)
   go_simp;have gT:=zI (heap_alloc_new Ui (.cells #[.slice none 0 0] bE));have f1:=zI (aa Ui (.cells #[.slice none 0 0] bE));have rQ:=zI Fw.size;have Fw:=zI (Fw.then f1.out);have AA:=zI (AA.af f1.out);go_wp2_with fail
   refine hK _ _ (dQ _ Fw.out) (λhH=>?_)
   clear hK K;try simp only[zz]
   obtain⟨b6,mK⟩:∃b,b=Ui.heap.size:=⟨_,rfl⟩;rw[<-mK]at gT rQ|-;generalize (World.alloc Ui (.cells #[.slice none 0 0] bE))=YO at *;have x6:YO.cell? ⟨b6,0,none⟩=some (.slice none 0 0):=by rw[cell_of_row _ _ _ _ _ _ gT.out];rfl
   have z6:=ae gT.out 0;clear mK;refine rY 11 (λK hK=>?_)
   go_simp;have MM:=zI (Uc.end (o:=fo) Fw gT rQ AA.out);refine hK _ _ (dQ _ MM.fp) (λhH=>?_)
   clear hK K;try simp only[zz]
   refine aF 12 hH ?_;refine yD ?_;go_wp2_with fail
   go_meet
   case rel=>exact⟨_,_,_,_,rfl,rfl,MM⟩
  go_simp;have gT:=zI (show((World.alloc w4 (.cells #[.slice none 0 0] bE)).drew).heap[w4.heap.size]?=_ from heap_alloc_new w4 (.cells #[.slice none 0 0] bE));have f1:=zI ((aa w4 (.cells #[.slice none 0 0] bE)).drew);have Fw:=zI f1.out;have rQ:=zI (Nat.le_refl w4.heap.size);go_wp2_with fail
  refine hK _ _ (dQ _ Fw.out) (λhH=>?_)
  clear hK K;try simp only[zz]
  obtain⟨b6,mK⟩:∃b,b=w4.heap.size:=⟨_,rfl⟩;rw[<-mK]at gT|-;have rQ:=zI (show w4.heap.size<=b6 from by rw[mK];exact Nat.le_refl _)
  generalize ((World.alloc w4 (.cells #[.slice none 0 0] bE)).drew)=Ui at *;clear mK;refine rY 6 (λK hK=>?_)
  go_simp;refine(HX.2.1 _ ((F4.later Fw.out).fp)).mono ?_;rintro e YO hR;obtain⟨v6,rfl,o1⟩:=hR.ex;have f1:=zI hR.fp;have Fw:=zI (Fw.then f1.out);rw[<-HB.2]at o1|-;have gT:=zI (f1.heap gT id);obtain⟨a6,n6,c6,rfl⟩:∃a n c,v6=.slice a n c:=by obtain⟨a,c,e⟩:=o1.shape;exact⟨a,_,c,e⟩
  have AA:=zI o1;clear hR o1;go_wp2_with fail
  refine hK _ _ (dQ _ Fw.out) (λhH=>?_)
  clear hK K;try simp only[zz]
  refine aF 7 hH ?_;refine aF 8 hH ?_;refine aF 9 hH ?_;have x6:YO.cell? ⟨b6,0,none⟩=some (.slice none 0 0):=by rw[cell_of_row _ _ _ _ _ _ gT.out];rfl
  have z6:=ae gT.out 0;refine rY 11 (λK hK=>?_)
  go_simp;have MM:=zI (Uc.end (o:=fo) Fw gT rQ AA.out);refine hK _ _ (dQ _ MM.fp) (λhH=>?_)
  clear hK K;try simp only[zz]
  refine aF 12 hH ?_;refine yD ?_;go_wp2_with fail
  go_meet
  case rel=>exact⟨_,_,_,_,rfl,rfl,MM⟩
 obtain⟨b6,d1,d2,d3,rfl,rfl,MM⟩:=hcut;have F5:=zI (F4.later MM.fp);cases fo with
 |none=>
  have HD:=zI (show jf h c.pre c.ep=(h,.no 132) from by rw[Ug.out,if_neg Bool.false_ne_true];rfl)
  simp only[Option.isSome_none]
  go_wp2_with fail
  refine(bF 132 _).mono ?_;rintro e Hu⟨rfl,f9⟩;have F9:=zI (F5.later f9);clear f9;go_wp2_with (refine ak rfl aT _ _ rfl _ _ rfl rfl (aA bw (cs:=aC (.no 132) nS nS nS nS nS) F9.rs rfl rfl (aD ⟨⟨none,0,0,rfl⟩,⟨none,0,0,rfl⟩,⟨none,0,0,rfl⟩,⟨none,0,0,rfl⟩,⟨none,0,0,rfl⟩⟩)) ?_)
  obtain⟨z0,z1,z2,z3,z4,z5,z6,z7,z8,z9⟩:=bj (aj (cs:=aC (.no 132) nS nS nS nS nS) F9.rs);have HE:=zI (bN.fin (r:=(h,.no 132)) F9.fp.any F9.rs HP.1 (HP.2.1.af F9.fp) (ej.ok Hu 132 0 false 0));generalize World.setRow Hu (w.heap.size+1) (aC (.no 132) nS nS nS nS nS)=wz at *;go_wp2;refine bodyPost_ret (v:=.agg (aC (.no 132) nS nS nS nS nS)) (by simp[results,results90,go_sem,z0,z1,z2,z3,z4,z5,z6,z7,z8,z9,aC]) rfl ?_
  rw[HD.out];exact HE.out
 |some now=>?_
 simp only[Option.isSome_some]
 have KN:=DG HB.2.symm
 have hnz:BK now:=⟨by have:=KN.len;omega,λx hx=>by
  have h1:=KN.ok x hx;unfold nA nF at h1;simp only[Bool.and_eq_true]at h1
  have:=cy h1.1.1;omega⟩
 have Hv:=zI (yI KN hnz);have N5:=zI (show di wc (.slice d1 d2 d3) now from MM.ns);have y6:wc.cell? ⟨b6,0,none⟩=some (.slice d1 d2 d3):=by rw[cell_of_row _ _ _ _ _ _ MM.row];rfl
 obtain⟨r0,r1,r2⟩:=Ue (MM.fp.heap XA id);have me:=HX.1 _ _ _ N5 (by have:=KN.len;omega)
 obtain⟨b2,bW⟩:∃b,b=decide (fx∈now):=⟨_,rfl⟩;rw[<-bW]at me;have Jr:=zI me;have jU:=zI bW;unfold lF au at Jr;clear KN hnz me bW;go_wp2_with fail
 refine Jr.mono ?_;rintro e w6⟨rfl,f6⟩;have F6:=zI (F5.later f6);have N6:=zI (N5.af f6);have M6:=zI (f6.heap MM.row id);clear f6 y6 r0 r1 r2;cases b2 with
 |false=>
  have HD:=zI (show jf h c.pre c.ep=(h,.no 133) from by rw[Ug.out,if_neg Bool.false_ne_true];unfold DL;dsimp only;rw[<-EE.out,<-jU.out,if_pos rfl])
  go_wp2_with fail
  refine(bF 133 _).mono ?_;rintro e Hu⟨rfl,f9⟩;have F9:=zI (F6.later f9);clear f9;go_wp2_with (refine ak rfl aT _ _ rfl _ _ rfl rfl (aA bw (cs:=aC (.no 133) nS nS nS nS nS) F9.rs rfl rfl (aD ⟨⟨none,0,0,rfl⟩,⟨none,0,0,rfl⟩,⟨none,0,0,rfl⟩,⟨none,0,0,rfl⟩,⟨none,0,0,rfl⟩⟩)) ?_)
  obtain⟨z0,z1,z2,z3,z4,z5,z6,z7,z8,z9⟩:=bj (aj (cs:=aC (.no 133) nS nS nS nS nS) F9.rs);have HE:=zI (bN.fin (r:=(h,.no 133)) F9.fp.any F9.rs HP.1 (HP.2.1.af F9.fp) (ej.ok Hu 133 0 false 0));generalize World.setRow Hu (w.heap.size+1) (aC (.no 133) nS nS nS nS nS)=wz at *;go_wp2;refine bodyPost_ret (v:=.agg (aC (.no 133) nS nS nS nS nS)) (by simp[results,results90,go_sem,z0,z1,z2,z3,z4,z5,z6,z7,z8,z9,aC]) rfl ?_
  rw[HD.out];exact HE.out
 |true=>?_
 obtain⟨b3,mc⟩:∃b,b=h.hs.any (λx=>decide (qe now x.d=c.pre)):=⟨_,rfl⟩
 have iH:DA w6 (.func (.func 133) #[] #[.pointer (some ⟨b6,0,none⟩),.pointer (some ⟨w.heap.size,0,none⟩)]) (λs=>decide (qe now s=c.pre)):=
  ⟨_,_,_,rfl,enters_of func133 (by kernel_rfl) rfl,λs w1 hs f=>DM s c.pre now (.slice d1 d2 d3) b6 w.heap.size w1 hs (N6.af f) Hv.2 (f.cell (by rw[cell_of_row _ _ _ _ _ _ M6.out];rfl) id) ((F6.later f).cell 6 (v:=.string (B c.pre)) rfl)⟩
 have YP:=HX.2.2.2 _ _ _ F6.fp iH;rw[<-mc]at YP;have HHO:=zI YP;have Lk:=zI mc;clear iH YP mc;go_wp2_with fail
 refine HHO.mono ?_;rintro e w7⟨rfl,f7⟩;have F7:=zI (F6.later f7);have N7:=zI (N6.af f7);have M7:=zI (f7.heap M6 id);clear f7;cases b3 with
 |true=>
  have HD:=zI (show jf h c.pre c.ep=(h,.no 131) from by rw[Ug.out,if_neg Bool.false_ne_true];unfold DL;dsimp only;rw[<-EE.out,<-jU.out,if_neg (by decide),<-Lk.out,if_pos rfl])
  go_wp2_with fail
  refine(bF 131 _).mono ?_;rintro e Hu⟨rfl,f9⟩;have F9:=zI (F7.later f9);clear f9;go_wp2_with (refine ak rfl aT _ _ rfl _ _ rfl rfl (aA bw (cs:=aC (.no 131) nS nS nS nS nS) F9.rs rfl rfl (aD ⟨⟨none,0,0,rfl⟩,⟨none,0,0,rfl⟩,⟨none,0,0,rfl⟩,⟨none,0,0,rfl⟩,⟨none,0,0,rfl⟩⟩)) ?_)
  obtain⟨z0,z1,z2,z3,z4,z5,z6,z7,z8,z9⟩:=bj (aj (cs:=aC (.no 131) nS nS nS nS nS) F9.rs);have HE:=zI (bN.fin (r:=(h,.no 131)) F9.fp.any F9.rs HP.1 (HP.2.1.af F9.fp) (ej.ok Hu 131 0 false 0));generalize World.setRow Hu (w.heap.size+1) (aC (.no 131) nS nS nS nS nS)=wz at *;go_wp2;refine bodyPost_ret (v:=.agg (aC (.no 131) nS nS nS nS nS)) (by simp[results,results90,go_sem,z0,z1,z2,z3,z4,z5,z6,z7,z8,z9,aC]) rfl ?_
  rw[HD.out];exact HE.out
 |false=>?_
 have HD:=zI (show jf h c.pre c.ep=zy { h with rg:=now } c.pre c.ep from by rw[Ug.out,if_neg Bool.false_ne_true];unfold DL;dsimp only;rw[<-EE.out,<-jU.out,if_neg (by decide),<-Lk.out,if_neg Bool.false_ne_true])
 have P7:=zI (HP.2.2.1.af F7.fp);have y6:w7.cell? ⟨b6,0,none⟩=some (.slice d1 d2 d3):=by rw[cell_of_row _ _ _ _ _ _ M7.out];rfl
 obtain⟨x2,z2,ba,kA⟩:=Ti P7.row (.slice d1 d2 d3);have EW:=HP.1 q (.inl rfl);have oj:=(Array.getElem?_eq_some_iff.1 F7.rs).1;have P8:=zI (P7.QS (g:={ h with rg:=now }) kA ba ⟨P7.v.n,P7.v.t,N7.out,P7.v.hh,P7.v.w⟩ rfl rfl rfl)
 have RS8:=zI (kA.heap F7.rs (λe=>by have e:w.heap.size+1=q:=e;omega))
 have CB8:=zI (kA.heap F7.cb (λe=>by have e:w.heap.size=q:=e;omega))
 have Q8:=zI (show Fp (Bk q a x d) w (w7.setCell ⟨q,2,none⟩ (.slice d1 d2 d3)) from F7.fp.any.trans kA (λk hk=>.inl (.inl hk)))
 clear ba kA EW oj;go_wp2_with fail
 generalize (World.setCell w7 ⟨q,2,none⟩ (.slice d1 d2 d3))=w8 at *;clear x2 z2 y6;have bg:=zI (λW (f:Fp ab w8 W)=>yI ((P8.af f).cell 0 (v:=.slice g1 g2 g3) rfl) (yI ((P8.af f).cell 1 (v:=.slice g4 g5 g6) rfl) (yI ((P8.af f).cell 2 (v:=(.slice d1 d2 d3)) rfl) (pQ (f.heap CB8 id) 6 (v:=.string (B c.pre)) rfl))))
 go_wp2_with fail
 go_cut [8,9] from 52 to 65 (λx8 x9 wc=>∃(b8 b9:Nat) (c1:Option Addr) (c2 c3:Nat) (c4:Option Addr) (c5 c6:Nat),x8=.pointer (some ⟨b8,0,none⟩)/\x9=.pointer (some ⟨b9,0,none⟩)/\Hid (zl w8 (jJ h.st now c.pre) b8 (.slice c1 c2 c3) (.slice c4 c5 c6) wc))
 case first=>
  have Fw:=zI ((Fp.refl ab w8).drew);refine wp_region_held_drew (S:=(λw'=>w'.cell? ⟨q,0,none⟩=some (.slice g1 g2 g3)/\w'.cell? ⟨q,1,none⟩=some (.slice g4 g5 g6)/\w'.cell? ⟨q,2,none⟩=some (.slice d1 d2 d3)/\w'.cell? ⟨w.heap.size,6,none⟩=some (.string (B c.pre)))) (by kernel_rfl) ?_ (λhH=>?_)
  ·exact bg _ ((Fp.refl ab _).drew)
  refine aF 0 hH ?_;refine aF 1 hH ?_;refine aF 2 hH ?_;refine aF 3 hH ?_;refine aF 4 hH ?_;refine aF 5 hH ?_;refine aF 6 hH ?_;refine aF 7 hH ?_;refine aF 8 hH ?_;refine aF 9 hH ?_;refine PI 10 14 15 (λK hK=>?_) (λK hK=>?_) (λK hK=>?_)
  ·go_simp
   refine(HX.2.2.1 (.slice d1 d2 d3) _ _ (Q8.then Fw.out) ((P8.af Fw.out).v.r) Hv.1 Hv.2).mono ?_;rintro e rT hR;obtain⟨v1,u1,v2,u2,rfl,o1,o2,o3,o4⟩:=hR.ex;have f1:=zI hR.fp;have Fw:=zI (Fw.then f1.out);obtain⟨kY,ir,kZ,rfl⟩:=o1.eL;obtain⟨la,lf,lg,rfl⟩:∃a n c,u1=Value.slice a n c:=by obtain⟨a,c,e⟩:=o2.shape;exact⟨a,_,c,e⟩
   obtain⟨sx,sy,sB,rfl⟩:=o3.eL;obtain⟨sC,sD,sE,rfl⟩:∃a n c,u2=Value.slice a n c:=by obtain⟨a,c,e⟩:=o4.shape;exact⟨a,_,c,e⟩
   have AA:=zI (yI o1 o2);clear hR o1 o2 o3 o4;go_wp2_with fail
   refine hK _ _ (bg _ Fw.out) (λhH=>?_)
   clear hK K;try simp only[zz]
   refine aF 11 hH ?_;refine aF 12 hH ?_;refine aF 13 hH ?_;refine JG 14 15 (λK hK=>?_) (λK hK=>?_)
   ·go_simp
    have dj:=zI (heap_alloc_new rT (.cells #[.slice none 0 0,.slice none 0 0] aM));have f1:=zI (aa rT (.cells #[.slice none 0 0,.slice none 0 0] aM));have sF:=zI Fw.size;have Fw:=zI (Fw.then f1.out);have AA:=zI (yI (AA.1.af (f1.out)) (AA.2.af (f1.out)));go_wp2_with fail
    refine hK _ _ (bg _ Fw.out) (λhH=>?_)
    clear hK K;try simp only[zz]
    generalize (World.alloc rT (.cells #[.slice none 0 0,.slice none 0 0] aM))=pj at *;refine rY 15 (λK hK=>?_)
    go_simp;have NE:=zI (show pj.heap.size≠rT.heap.size from λe=>by have h:=(Array.getElem?_eq_some_iff.1 dj.out).1;omega)
    have dm:=zI (heap_alloc_new pj (.cells #[.slice none 0 0,.slice none 0 0] aM));have f1:=zI (aa pj (.cells #[.slice none 0 0,.slice none 0 0] aM));have sG:=zI Fw.size;have Fw:=zI (Fw.then f1.out);have AA:=zI (yI (AA.1.af (f1.out)) (AA.2.af (f1.out)));have dj:=zI ((f1.out).heap dj id);go_wp2_with fail
    refine hK _ _ (bg _ Fw.out) (λhH=>?_)
    clear hK K;try simp only[zz]
    generalize (World.alloc pj (.cells #[.slice none 0 0,.slice none 0 0] aM))=xP at *;obtain⟨dE,bJ⟩:∃b,b=rT.heap.size:=⟨_,rfl⟩;obtain⟨km,bK⟩:∃b,b=pj.heap.size:=⟨_,rfl⟩;have ko:=zI (show km≠dE from by rw[bJ,bK];exact NE.out)
    have dF:=zI (show w8.heap.size<=dE from by rw[bJ];exact sF.out)
    have gM:=zI (show w8.heap.size<=km from by rw[bK];exact sG.out)
    rw[<-bJ]at dj|-;rw[<-bK]at dm|-;clear bJ bK NE;refine rY 16 (λK hK=>?_)
    refine step_st rfl aM _ _ rfl _ _ rfl rfl (aA dD dj rfl rfl (by intro u hu;simp only[List.mem_cons,List.not_mem_nil,or_false]at hu;rcases hu with rfl|rfl<;>rfl)) ?_
    have Fx:=zI (Fw.trans (av xP dE #[.slice kY ir kZ,.slice la lf lg]) (λk hk=>.inr (by have h:=dF.out;have hk:k=dE:=hk;omega)))
    have Rx:=zI ((av xP dE #[.slice kY ir kZ,.slice la lf lg]).heap dm ko.out);refine hK _ _ (bg _ Fx.out) (λhH=>?_)
    clear hK K;try simp only[zz]
    refine rY 17 (λK hK=>?_)
    refine step_st rfl aM _ _ rfl _ _ rfl rfl (aA dD Rx rfl rfl (by intro u hu;simp only[List.mem_cons,List.not_mem_nil,or_false]at hu;rcases hu with rfl|rfl<;>rfl)) ?_
    have MM:=zI (zl.end (s:=jJ h.st now c.pre) (v2:=.slice sx sy sB) (u2:=.slice sC sD sE) Fw dj dm ko dF gM AA.1 AA.2);refine hK _ _ (bg _ MM.fp) (λhH=>?_)
    clear hK K;try simp only[zz]
    refine yD ?_;go_wp2_with fail
    go_meet
    case rel=>exact⟨_,_,_,_,_,_,_,_,rfl,rfl,MM⟩
   go_simp;have dm:=zI (heap_alloc_new rT (.cells #[.slice none 0 0,.slice none 0 0] aM));have f1:=zI (aa rT (.cells #[.slice none 0 0,.slice none 0 0] aM));have sG:=zI Fw.size;have Fw:=zI (Fw.then f1.out);have AA:=zI (yI (AA.1.af (f1.out)) (AA.2.af (f1.out)));go_wp2_with fail
   refine hK _ _ (bg _ Fw.out) (λhH=>?_)
   clear hK K;try simp only[zz]
   generalize (World.alloc rT (.cells #[.slice none 0 0,.slice none 0 0] aM))=pj at *;refine rY 14 (λK hK=>?_)
   go_simp;have NE:=zI (show pj.heap.size≠rT.heap.size from λe=>by have h:=(Array.getElem?_eq_some_iff.1 dm.out).1;omega)
   have dj:=zI (heap_alloc_new pj (.cells #[.slice none 0 0,.slice none 0 0] aM));have f1:=zI (aa pj (.cells #[.slice none 0 0,.slice none 0 0] aM));have sF:=zI Fw.size;have Fw:=zI (Fw.then f1.out);have AA:=zI (yI (AA.1.af (f1.out)) (AA.2.af (f1.out)));have dm:=zI ((f1.out).heap dm id);go_wp2_with fail
   refine hK _ _ (bg _ Fw.out) (λhH=>?_)
   clear hK K;try simp only[zz]
   generalize (World.alloc pj (.cells #[.slice none 0 0,.slice none 0 0] aM))=xP at *;obtain⟨dE,bJ⟩:∃b,b=pj.heap.size:=⟨_,rfl⟩;obtain⟨km,bK⟩:∃b,b=rT.heap.size:=⟨_,rfl⟩;have ko:=zI (show km≠dE from by rw[bJ,bK];exact NE.symm)
   have dF:=zI (show w8.heap.size<=dE from by rw[bJ];exact sF.out)
   have gM:=zI (show w8.heap.size<=km from by rw[bK];exact sG.out)
   rw[<-bJ]at dj|-;rw[<-bK]at dm|-;clear bJ bK NE;refine rY 16 (λK hK=>?_)
   refine step_st rfl aM _ _ rfl _ _ rfl rfl (aA dD dj rfl rfl (by intro u hu;simp only[List.mem_cons,List.not_mem_nil,or_false]at hu;rcases hu with rfl|rfl<;>rfl)) ?_
   have Fx:=zI (Fw.trans (av xP dE #[.slice kY ir kZ,.slice la lf lg]) (λk hk=>.inr (by have h:=dF.out;have hk:k=dE:=hk;omega)))
   have Rx:=zI ((av xP dE #[.slice kY ir kZ,.slice la lf lg]).heap dm ko.out);refine hK _ _ (bg _ Fx.out) (λhH=>?_)
   clear hK K;try simp only[zz]
   refine rY 17 (λK hK=>?_)
   refine step_st rfl aM _ _ rfl _ _ rfl rfl (aA dD Rx rfl rfl (by intro u hu;simp only[List.mem_cons,List.not_mem_nil,or_false]at hu;rcases hu with rfl|rfl<;>rfl)) ?_
   have MM:=zI (zl.end (s:=jJ h.st now c.pre) (v2:=.slice sx sy sB) (u2:=.slice sC sD sE) Fw dj dm ko dF gM AA.1 AA.2);refine hK _ _ (bg _ MM.fp) (λhH=>?_)
   clear hK K;try simp only[zz]
   refine yD ?_;go_wp2_with fail
   go_meet
   case rel=>exact⟨_,_,_,_,_,_,_,_,rfl,rfl,MM⟩
  ·go_simp
   have dj:=zI (show((World.alloc w8 (.cells #[.slice none 0 0,.slice none 0 0] aM)).drew).heap[w8.heap.size]?=_ from heap_alloc_new w8 (.cells #[.slice none 0 0,.slice none 0 0] aM));have f1:=zI ((aa w8 (.cells #[.slice none 0 0,.slice none 0 0] aM)).drew);have Fw:=zI f1.out;have sF:=zI (Nat.le_refl w8.heap.size);go_wp2_with fail
   refine hK _ _ (bg _ Fw.out) (λhH=>?_)
   clear hK K;try simp only[zz]
   generalize ((World.alloc w8 (.cells #[.slice none 0 0,.slice none 0 0] aM)).drew)=rT at *;refine JG 10 15 (λK hK=>?_) (λK hK=>?_)
   ·go_simp
    refine(HX.2.2.1 (.slice d1 d2 d3) _ _ (Q8.then Fw.out) ((P8.af Fw.out).v.r) Hv.1 Hv.2).mono ?_;rintro e pj hR;obtain⟨v1,u1,v2,u2,rfl,o1,o2,o3,o4⟩:=hR.ex;have f1:=zI hR.fp;have Fw:=zI (Fw.then f1.out);have dj:=zI ((f1.out).heap dj id);obtain⟨kY,ir,kZ,rfl⟩:=o1.eL;obtain⟨la,lf,lg,rfl⟩:∃a n c,u1=Value.slice a n c:=by obtain⟨a,c,e⟩:=o2.shape;exact⟨a,_,c,e⟩
    obtain⟨sx,sy,sB,rfl⟩:=o3.eL;obtain⟨sC,sD,sE,rfl⟩:∃a n c,u2=Value.slice a n c:=by obtain⟨a,c,e⟩:=o4.shape;exact⟨a,_,c,e⟩
    have AA:=zI (yI o1 o2);clear hR o1 o2 o3 o4;go_wp2_with fail
    refine hK _ _ (bg _ Fw.out) (λhH=>?_)
    clear hK K;try simp only[zz]
    refine aF 11 hH ?_;refine aF 12 hH ?_;refine aF 13 hH ?_;refine rY 15 (λK hK=>?_)
    go_simp;have NE:=zI (show pj.heap.size≠w8.heap.size from λe=>by have h:=(Array.getElem?_eq_some_iff.1 dj.out).1;omega)
    have dm:=zI (heap_alloc_new pj (.cells #[.slice none 0 0,.slice none 0 0] aM));have f1:=zI (aa pj (.cells #[.slice none 0 0,.slice none 0 0] aM));have sG:=zI Fw.size;have Fw:=zI (Fw.then f1.out);have dj:=zI ((f1.out).heap dj id);have AA:=zI (yI (AA.1.af (f1.out)) (AA.2.af (f1.out)));go_wp2_with fail
    refine hK _ _ (bg _ Fw.out) (λhH=>?_)
    clear hK K;try simp only[zz]
    generalize (World.alloc pj (.cells #[.slice none 0 0,.slice none 0 0] aM))=xP at *;obtain⟨dE,bJ⟩:∃b,b=w8.heap.size:=⟨_,rfl⟩;obtain⟨km,bK⟩:∃b,b=pj.heap.size:=⟨_,rfl⟩;have ko:=zI (show km≠dE from by rw[bJ,bK];exact NE.out)
    have dF:=zI (show w8.heap.size<=dE from by rw[bJ];exact sF.out)
    have gM:=zI (show w8.heap.size<=km from by rw[bK];exact sG.out)
    rw[<-bJ]at dj|-;rw[<-bK]at dm|-;clear bJ bK NE;refine rY 16 (λK hK=>?_)
    refine step_st rfl aM _ _ rfl _ _ rfl rfl (aA dD dj rfl rfl (by intro u hu;simp only[List.mem_cons,List.not_mem_nil,or_false]at hu;rcases hu with rfl|rfl<;>rfl)) ?_
    have Fx:=zI (Fw.trans (av xP dE #[.slice kY ir kZ,.slice la lf lg]) (λk hk=>.inr (by have h:=dF.out;have hk:k=dE:=hk;omega)))
    have Rx:=zI ((av xP dE #[.slice kY ir kZ,.slice la lf lg]).heap dm ko.out);refine hK _ _ (bg _ Fx.out) (λhH=>?_)
    clear hK K;try simp only[zz]
    refine rY 17 (λK hK=>?_)
    refine step_st rfl aM _ _ rfl _ _ rfl rfl (aA dD Rx rfl rfl (by intro u hu;simp only[List.mem_cons,List.not_mem_nil,or_false]at hu;rcases hu with rfl|rfl<;>rfl)) ?_
    have MM:=zI (zl.end (s:=jJ h.st now c.pre) (v2:=.slice sx sy sB) (u2:=.slice sC sD sE) Fw dj dm ko dF gM AA.1 AA.2);refine hK _ _ (bg _ MM.fp) (λhH=>?_)
    clear hK K;try simp only[zz]
    refine yD ?_;go_wp2_with fail
    go_meet
    case rel=>exact⟨_,_,_,_,_,_,_,_,rfl,rfl,MM⟩
   go_simp;have NE:=zI (show rT.heap.size≠w8.heap.size from λe=>by have h:=(Array.getElem?_eq_some_iff.1 dj.out).1;omega)
   have dm:=zI (heap_alloc_new rT (.cells #[.slice none 0 0,.slice none 0 0] aM));have f1:=zI (aa rT (.cells #[.slice none 0 0,.slice none 0 0] aM));have sG:=zI Fw.size;have Fw:=zI (Fw.then f1.out);have dj:=zI ((f1.out).heap dj id);go_wp2_with fail
   refine hK _ _ (bg _ Fw.out) (λhH=>?_)
   clear hK K;try simp only[zz]
   generalize (World.alloc rT (.cells #[.slice none 0 0,.slice none 0 0] aM))=pj at *;refine rY 10 (λK hK=>?_)
   go_simp;refine(HX.2.2.1 (.slice d1 d2 d3) _ _ (Q8.then Fw.out) ((P8.af Fw.out).v.r) Hv.1 Hv.2).mono ?_;rintro e xP hR;obtain⟨v1,u1,v2,u2,rfl,o1,o2,o3,o4⟩:=hR.ex;have f1:=zI hR.fp;have Fw:=zI (Fw.then f1.out);have dj:=zI ((f1.out).heap dj id);have dm:=zI ((f1.out).heap dm id);obtain⟨kY,ir,kZ,rfl⟩:=o1.eL;obtain⟨la,lf,lg,rfl⟩:∃a n c,u1=Value.slice a n c:=by obtain⟨a,c,e⟩:=o2.shape;exact⟨a,_,c,e⟩
   obtain⟨sx,sy,sB,rfl⟩:=o3.eL;obtain⟨sC,sD,sE,rfl⟩:∃a n c,u2=Value.slice a n c:=by obtain⟨a,c,e⟩:=o4.shape;exact⟨a,_,c,e⟩
   have AA:=zI (yI o1 o2);clear hR o1 o2 o3 o4;go_wp2_with fail
   refine hK _ _ (bg _ Fw.out) (λhH=>?_)
   clear hK K;try simp only[zz]
   refine aF 11 hH ?_;refine aF 12 hH ?_;refine aF 13 hH ?_;obtain⟨dE,bJ⟩:∃b,b=w8.heap.size:=⟨_,rfl⟩;obtain⟨km,bK⟩:∃b,b=rT.heap.size:=⟨_,rfl⟩;have ko:=zI (show km≠dE from by rw[bJ,bK];exact NE.out)
   have dF:=zI (show w8.heap.size<=dE from by rw[bJ];exact sF.out)
   have gM:=zI (show w8.heap.size<=km from by rw[bK];exact sG.out)
   rw[<-bJ]at dj|-;rw[<-bK]at dm|-;clear bJ bK NE;refine rY 16 (λK hK=>?_)
   refine step_st rfl aM _ _ rfl _ _ rfl rfl (aA dD dj rfl rfl (by intro u hu;simp only[List.mem_cons,List.not_mem_nil,or_false]at hu;rcases hu with rfl|rfl<;>rfl)) ?_
   have Fx:=zI (Fw.trans (av xP dE #[.slice kY ir kZ,.slice la lf lg]) (λk hk=>.inr (by have h:=dF.out;have hk:k=dE:=hk;omega)))
   have Rx:=zI ((av xP dE #[.slice kY ir kZ,.slice la lf lg]).heap dm ko.out);refine hK _ _ (bg _ Fx.out) (λhH=>?_)
   clear hK K;try simp only[zz]
   refine rY 17 (λK hK=>?_)
   refine step_st rfl aM _ _ rfl _ _ rfl rfl (aA dD Rx rfl rfl (by intro u hu;simp only[List.mem_cons,List.not_mem_nil,or_false]at hu;rcases hu with rfl|rfl<;>rfl)) ?_
   have MM:=zI (zl.end (s:=jJ h.st now c.pre) (v2:=.slice sx sy sB) (u2:=.slice sC sD sE) Fw dj dm ko dF gM AA.1 AA.2);refine hK _ _ (bg _ MM.fp) (λhH=>?_)
   clear hK K;try simp only[zz]
   refine yD ?_;go_wp2_with fail
   go_meet
   case rel=>exact⟨_,_,_,_,_,_,_,_,rfl,rfl,MM⟩
  go_simp;have dm:=zI (show((World.alloc w8 (.cells #[.slice none 0 0,.slice none 0 0] aM)).drew).heap[w8.heap.size]?=_ from heap_alloc_new w8 (.cells #[.slice none 0 0,.slice none 0 0] aM));have f1:=zI ((aa w8 (.cells #[.slice none 0 0,.slice none 0 0] aM)).drew);have Fw:=zI f1.out;have sG:=zI (Nat.le_refl w8.heap.size);go_wp2_with fail
  refine hK _ _ (bg _ Fw.out) (λhH=>?_)
  clear hK K;try simp only[zz]
  generalize ((World.alloc w8 (.cells #[.slice none 0 0,.slice none 0 0] aM)).drew)=rT at *;refine JG 10 14 (λK hK=>?_) (λK hK=>?_)
  ·go_simp
   refine(HX.2.2.1 (.slice d1 d2 d3) _ _ (Q8.then Fw.out) ((P8.af Fw.out).v.r) Hv.1 Hv.2).mono ?_;rintro e pj hR;obtain⟨v1,u1,v2,u2,rfl,o1,o2,o3,o4⟩:=hR.ex;have f1:=zI hR.fp;have Fw:=zI (Fw.then f1.out);have dm:=zI ((f1.out).heap dm id);obtain⟨kY,ir,kZ,rfl⟩:=o1.eL;obtain⟨la,lf,lg,rfl⟩:∃a n c,u1=Value.slice a n c:=by obtain⟨a,c,e⟩:=o2.shape;exact⟨a,_,c,e⟩
   obtain⟨sx,sy,sB,rfl⟩:=o3.eL;obtain⟨sC,sD,sE,rfl⟩:∃a n c,u2=Value.slice a n c:=by obtain⟨a,c,e⟩:=o4.shape;exact⟨a,_,c,e⟩
   have AA:=zI (yI o1 o2);clear hR o1 o2 o3 o4;go_wp2_with fail
   refine hK _ _ (bg _ Fw.out) (λhH=>?_)
   clear hK K;try simp only[zz]
   refine aF 11 hH ?_;refine aF 12 hH ?_;refine aF 13 hH ?_;refine rY 14 (λK hK=>?_)
   go_simp;have NE:=zI (show pj.heap.size≠w8.heap.size from λe=>by have h:=(Array.getElem?_eq_some_iff.1 dm.out).1;omega)
   have dj:=zI (heap_alloc_new pj (.cells #[.slice none 0 0,.slice none 0 0] aM));have f1:=zI (aa pj (.cells #[.slice none 0 0,.slice none 0 0] aM));have sF:=zI Fw.size;have Fw:=zI (Fw.then f1.out);have dm:=zI ((f1.out).heap dm id);have AA:=zI (yI (AA.1.af (f1.out)) (AA.2.af (f1.out)));go_wp2_with fail
   refine hK _ _ (bg _ Fw.out) (λhH=>?_)
   clear hK K;try simp only[zz]
   generalize (World.alloc pj (.cells #[.slice none 0 0,.slice none 0 0] aM))=xP at *;obtain⟨dE,bJ⟩:∃b,b=pj.heap.size:=⟨_,rfl⟩;obtain⟨km,bK⟩:∃b,b=w8.heap.size:=⟨_,rfl⟩;have ko:=zI (show km≠dE from by rw[bJ,bK];exact NE.symm)
   have dF:=zI (show w8.heap.size<=dE from by rw[bJ];exact sF.out)
   have gM:=zI (show w8.heap.size<=km from by rw[bK];exact sG.out)
   rw[<-bJ]at dj|-;rw[<-bK]at dm|-;clear bJ bK NE;refine rY 16 (λK hK=>?_)
   refine step_st rfl aM _ _ rfl _ _ rfl rfl (aA dD dj rfl rfl (by intro u hu;simp only[List.mem_cons,List.not_mem_nil,or_false]at hu;rcases hu with rfl|rfl<;>rfl)) ?_
   have Fx:=zI (Fw.trans (av xP dE #[.slice kY ir kZ,.slice la lf lg]) (λk hk=>.inr (by have h:=dF.out;have hk:k=dE:=hk;omega)))
   have Rx:=zI ((av xP dE #[.slice kY ir kZ,.slice la lf lg]).heap dm ko.out);refine hK _ _ (bg _ Fx.out) (λhH=>?_)
   clear hK K;try simp only[zz]
   refine rY 17 (λK hK=>?_)
   refine step_st rfl aM _ _ rfl _ _ rfl rfl (aA dD Rx rfl rfl (by intro u hu;simp only[List.mem_cons,List.not_mem_nil,or_false]at hu;rcases hu with rfl|rfl<;>rfl)) ?_
   have MM:=zI (zl.end (s:=jJ h.st now c.pre) (v2:=.slice sx sy sB) (u2:=.slice sC sD sE) Fw dj dm ko dF gM AA.1 AA.2);refine hK _ _ (bg _ MM.fp) (λhH=>?_)
   clear hK K;try simp only[zz]
   refine yD ?_;go_wp2_with fail
   go_meet
   case rel=>exact⟨_,_,_,_,_,_,_,_,rfl,rfl,MM⟩
  go_simp;have NE:=zI (show rT.heap.size≠w8.heap.size from λe=>by have h:=(Array.getElem?_eq_some_iff.1 dm.out).1;omega)
  have dj:=zI (heap_alloc_new rT (.cells #[.slice none 0 0,.slice none 0 0] aM));have f1:=zI (aa rT (.cells #[.slice none 0 0,.slice none 0 0] aM));have sF:=zI Fw.size;have Fw:=zI (Fw.then f1.out);have dm:=zI ((f1.out).heap dm id);go_wp2_with fail
  refine hK _ _ (bg _ Fw.out) (λhH=>?_)
  clear hK K;try simp only[zz]
  generalize (World.alloc rT (.cells #[.slice none 0 0,.slice none 0 0] aM))=pj at *;refine rY 10 (λK hK=>?_)
  go_simp;refine(HX.2.2.1 (.slice d1 d2 d3) _ _ (Q8.then Fw.out) ((P8.af Fw.out).v.r) Hv.1 Hv.2).mono ?_;rintro e xP hR;obtain⟨v1,u1,v2,u2,rfl,o1,o2,o3,o4⟩:=hR.ex;have f1:=zI hR.fp;have Fw:=zI (Fw.then f1.out);have dm:=zI ((f1.out).heap dm id);have dj:=zI ((f1.out).heap dj id);obtain⟨kY,ir,kZ,rfl⟩:=o1.eL;obtain⟨la,lf,lg,rfl⟩:∃a n c,u1=Value.slice a n c:=by obtain⟨a,c,e⟩:=o2.shape;exact⟨a,_,c,e⟩
  obtain⟨sx,sy,sB,rfl⟩:=o3.eL;obtain⟨sC,sD,sE,rfl⟩:∃a n c,u2=Value.slice a n c:=by obtain⟨a,c,e⟩:=o4.shape;exact⟨a,_,c,e⟩
  have AA:=zI (yI o1 o2);clear hR o1 o2 o3 o4;go_wp2_with fail
  refine hK _ _ (bg _ Fw.out) (λhH=>?_)
  clear hK K;try simp only[zz]
  refine aF 11 hH ?_;refine aF 12 hH ?_;refine aF 13 hH ?_;obtain⟨dE,bJ⟩:∃b,b=rT.heap.size:=⟨_,rfl⟩;obtain⟨km,bK⟩:∃b,b=w8.heap.size:=⟨_,rfl⟩;have ko:=zI (show km≠dE from by rw[bJ,bK];exact NE.symm)
  have dF:=zI (show w8.heap.size<=dE from by rw[bJ];exact sF.out)
  have gM:=zI (show w8.heap.size<=km from by rw[bK];exact sG.out)
  rw[<-bJ]at dj|-;rw[<-bK]at dm|-;clear bJ bK NE;refine rY 16 (λK hK=>?_)
  refine step_st rfl aM _ _ rfl _ _ rfl rfl (aA dD dj rfl rfl (by intro u hu;simp only[List.mem_cons,List.not_mem_nil,or_false]at hu;rcases hu with rfl|rfl<;>rfl)) ?_
  have Fx:=zI (Fw.trans (av xP dE #[.slice kY ir kZ,.slice la lf lg]) (λk hk=>.inr (by have h:=dF.out;have hk:k=dE:=hk;omega)))
  have Rx:=zI ((av xP dE #[.slice kY ir kZ,.slice la lf lg]).heap dm ko.out);refine hK _ _ (bg _ Fx.out) (λhH=>?_)
  clear hK K;try simp only[zz]
  refine rY 17 (λK hK=>?_)
  refine step_st rfl aM _ _ rfl _ _ rfl rfl (aA dD Rx rfl rfl (by intro u hu;simp only[List.mem_cons,List.not_mem_nil,or_false]at hu;rcases hu with rfl|rfl<;>rfl)) ?_
  have MM:=zI (zl.end (s:=jJ h.st now c.pre) (v2:=.slice sx sy sB) (u2:=.slice sC sD sE) Fw dj dm ko dF gM AA.1 AA.2);refine hK _ _ (bg _ MM.fp) (λhH=>?_)
  clear hK K;try simp only[zz]
  refine yD ?_;go_wp2_with fail
  go_meet
  case rel=>exact⟨_,_,_,_,_,_,_,_,rfl,rfl,MM⟩
 obtain⟨b8,b9,c1,c2,c3,c4,c5,c6,rfl,rfl,MM⟩:=hcut;have y0:=(Lq MM.row).1;have y1:=(Lq MM.row).2;have k7:=pQ (MM.fp.heap CB8 id) 7 (v:=.int .i64 c.ep) rfl;have PQ:=zI (MM.fp.heap RS8 id);have Pz:=zI (P8.af MM.fp);have Fz:=zI (show Fp (Bk q a x d) w wc from Q8.then MM.fp);obtain⟨an,iQ⟩:∃z:ck,z={ ck.ok with ep:=c.ep,st:=jJ h.st now c.pre }:=⟨_,rfl⟩
 have zj:=zI iQ;have Az:=zI (show ej wc an (.slice none 0 0) (.slice c1 c2 c3) (.slice c4 c5 c6) nS nS from by rw[zj.out];exact⟨(ej.ok wc 0 0 false 0).r,MM.n,MM.t,mB.nil wc,0,dT.nil 0 wc⟩)
 have zk:=HD;clear HD iQ;have HD:=zI (show jf h c.pre c.ep=({ h with rg:=now },an) from by rw[zk.out,zj.out];rfl)
 clear zk;go_wp2_with (refine ak rfl aT _ _ rfl _ _ rfl rfl (aA bw (cs:=aC { ck.ok with ep:=c.ep } (.slice none 0 0) (.slice c1 c2 c3) (.slice c4 c5 c6) nS nS) PQ rfl rfl (aD ⟨⟨none,0,0,rfl⟩,⟨_,_,_,rfl⟩,⟨_,_,_,rfl⟩,⟨none,0,0,rfl⟩,⟨none,0,0,rfl⟩⟩)) ?_)
 have qM:aC { ck.ok with ep:=c.ep } (.slice none 0 0) (.slice c1 c2 c3) (.slice c4 c5 c6) nS nS=aC an (.slice none 0 0) (.slice c1 c2 c3) (.slice c4 c5 c6) nS nS:=by rw[zj.out];rfl
 rw[qM];clear qM;obtain⟨z0,z1,z2,z3,z4,z5,z6,z7,z8,z9⟩:=bj (aj (cs:=aC an (.slice none 0 0) (.slice c1 c2 c3) (.slice c4 c5 c6) nS nS) PQ.out);have HE:=zI (bN.fin (r:=({ h with rg:=now },an)) Fz PQ HP.1 ⟨_,_,_,_,_,_,Pz.out⟩ Az.out)
 generalize World.setRow wc (w.heap.size+1) (aC an (.slice none 0 0) (.slice c1 c2 c3) (.slice c4 c5 c6) nS nS)=wz at *;go_wp2;refine bodyPost_ret (v:=.agg (aC an (.slice none 0 0) (.slice c1 c2 c3) (.slice c4 c5 c6) nS nS)) (by simp[results,results90,go_sem,z0,z1,z2,z3,z4,z5,z6,z7,z8,z9,aC]) rfl ?_
 rw[HD.out];exact HE.out
end Go.Proofs.YtgafcelloiagmaaGreatDoor
