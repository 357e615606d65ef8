/- A text of this proof. -/
import Derived.Test.YtgafcelloiagmaaGreatDoorZCBS
set_option maxHeartbeats 16000000
set_option linter.unusedSimpArgs false
set_option linter.unusedVariables false
set_option maxRecDepth 20000
namespace Go.Proofs.YtgafcelloiagmaaGreatDoor
open Go.Proofs.Tryz
section
open Go.RowKit Pm
attribute [local irreducible] wpStill
theorem DH{α:Type}{enc:α->List Value}{k:Nat}(hk:∀x,(enc x).length=k)(l:List α)(i j:Nat)(hi:i<l.length)(hj:j<k)(x:α)(v:Value)(hx:enc x=(enc l[i]).set j v):(bC enc l).set (i*k+j) v=bC enc (l.set i x):=by
 induction l generalizing i with
 |nil=>simp at hi
 |cons y r ih=>
  cases i with
  |zero=>
   simp only[List.getElem_cons_zero]at hx
   rw[dW,List.set_cons_zero,dW,hx,Nat.zero_mul,Nat.zero_add,List.set_append_left _ _ (by rw[hk];exact hj)]
  |succ i=>?_
  simp only[List.getElem_cons_succ]at hx
  rw[dW,List.set_cons_succ,dW,<-ih i (by simpa using hi) hx,List.set_append_right _ _ (by rw[hk,Nat.add_mul];omega)]
  congr 2
  rw[hk,Nat.add_mul];omega
theorem dT.ex{α:Type}{T:TypeId}{enc:α->List Value}{k lo:Nat}{w:World}{v:Value}{l:List α}(h:dT T enc k lo w v l)(h0:0<l.length):∃g cap,v=.slice (some ⟨g,0,none⟩) l.length cap/\lo<=g/\g<w.heap.size:=by
 rcases h.2 with⟨_,h1⟩|⟨g,cap,cur,e,hb,hg,_⟩
 ·omega
 exact⟨g,cap,e,hb,(Array.getElem?_eq_some_iff.1 hg).1⟩
theorem dT.set{α:Type}{T:TypeId}{enc:α->List Value}{k lo:Nat}(hk:∀x,(enc x).length=k){w:World}{G n cap:Nat}{l:List α}(h:dT T enc k lo w (.slice (some ⟨G,0,none⟩) n cap) l)(i j:Nat)(hi:i<l.length)(hj:j<k)(x:α)(v:Value)(hx:enc x=(enc l[i]).set j v):
  dT T enc k lo (w.setCell ⟨G,i*k+j,none⟩ v) (.slice (some ⟨G,0,none⟩) n cap) (l.set i x)/\w.frozen? ⟨G,i*k+j,none⟩=false:=by
 rcases h.2 with⟨h0,_⟩|⟨g,aY,cur,e,hb,hg,h1,h2,h3,h4⟩
 ·cases h0
 injection e with e1 e2 e3
 injection e1 with e1
 injection e1 with e1 _ _
 subst e1;refine⟨⟨by rw[kH hk],.inr ⟨G,aY,cur.setIfInBounds (i*k+j) v,by rw[List.length_set,e2,e3],hb,heap_setCell_same w G (i*k+j) _ T v hg,by rw[List.length_set];exact h1,h2,by simpa using h3,?_⟩⟩,ae hg _⟩
 rw[List.length_set,Array.toList_setIfInBounds,<-DH hk l i j hi hj x v hx,<-h4];exact List.take_set
theorem Hn(lo:Nat)(v:Value)(l:List Bs)(w:World)(hv:Own lo w v l)(h5:l.length<=100000):
  Calls prog 97 #[v] w λe w'=>∃v',e=.returned v'/\Own w.heap.size w' v' l/\Fp ab w w':=by
 cases l with
 |nil=>
  obtain rfl:=hv.2 rfl;have fW:∀w:World,(binOp .eql Cv nS nS).run prog w=.ok (.bool true) w:=λw=>Lib.run_eql_slice_nil w Cv Ay none 0 0 0 0 Tryz.underlying45
  clear hv h5;go_enter func97,ntmps97
  go_wp2;go_ret;exact⟨_,rfl,Own.nil _ _,Fp.refl _ _⟩
 |cons x l=>?_
 have hs:uC w v (x::l):=dT.sg mz (lo:=lo) (T:=Ay) (by unfold dT;rw[pS];exact hv.1)
 refine(wT v (x::l) w hs h5).mono ?_;rintro e w'⟨v',rfl,h⟩;exact⟨v',rfl,⟨by have:=h.own;unfold AB dT at this;rw[pS]at this;exact this,λh=>by cases h⟩,h.fp⟩
structure Lh(w W2:World)(a:ck)(vr vn vt ve vw:Value)(W:World):Prop where
 bx:W.heap[w.heap.size]?=some (.cells (aC a vr vn vt ve vw) aT (0,0))
 rs:W.heap[w.heap.size+1]?=some (.cells fq aT (0,0))
 ow:∃L:List Rw,L.map Rw.r=a.res/\dT TR wX 5 W2.heap.size W vr L/\∀x∈L,∃lo,Own lo W x.nv x.r.names
 fr:Fp (λk=>k=w.heap.size) W2 W
theorem Lh.af{w W2:World}{a:ck}{vr vn vt ve vw:Value}{W W':World}(h:Lh w W2 a vr vn vt ve vw W)(f:Fp ab W W'):Lh w W2 a vr vn vt ve vw W':=
 ⟨f.heap h.bx id,f.heap h.rs id,by obtain⟨L,h1,h2,h3⟩:=h.ow;exact⟨L,h1,h2.af f,λx hx=>by obtain⟨lo,h⟩:=h3 x hx;exact⟨lo,h.dU f⟩⟩,h.fr.then f⟩
theorem Lh.put{w W2:World}{a:ck}{G n cap:Nat}{vn vt ve vw:Value}{W:World}(h:Lh w W2 a (.slice (some ⟨G,0,none⟩) n cap) vn vt ve vw W)(hw:w.heap.size+1<W2.heap.size){L:List Rw}(hL:L.map Rw.r=a.res)(ho:dT TR wX 5 W2.heap.size W (.slice (some ⟨G,0,none⟩) n cap) L)(hn:∀x∈L,∃lo,Own lo W x.nv x.r.names)
  (m:Nat) (hm:m<L.length) (na:Option Addr) (nc:Nat) {lo:Nat} (hv:Own lo W (.slice na L[m].r.names.length nc) L[m].r.names) (hG:W2.heap.size<=G):
  Lh w W2 a (.slice (some ⟨G,0,none⟩) n cap) vn vt ve vw (W.setCell ⟨G,m*5+4,none⟩ (.slice na L[m].r.names.length nc))/\W.frozen? ⟨G,m*5+4,none⟩=false:=by
 obtain⟨h1,h2⟩:=ho.set gZ m 4 hm (by omega) ⟨L[m].r,na,nc⟩ (.slice na L[m].r.names.length nc) rfl
 obtain⟨cs,ht⟩:=dT.type ho (j:=G) rfl;have f:Fp (λk=>k=G) W (W.setCell ⟨G,m*5+4,none⟩ (.slice na L[m].r.names.length nc)):=bd W G _ _
 have hk:∀{lo:Nat} {v:Value} {ps:List Bs},Own lo W v ps->Own lo (W.setCell ⟨G,m*5+4,none⟩ (.slice na L[m].r.names.length nc)) v ps:=λhv=>hv.ia ht (by decide) f
 refine⟨⟨f.heap h.bx (λe=>by have e:w.heap.size=G:=e;omega),f.heap h.rs (λe=>by have e:w.heap.size+1=G:=e;omega),⟨_,?_,h1,λx hx=>?_⟩,h.fr.trans f (λk hk=>.inr (by have hk:k=G:=hk;omega))⟩,h2⟩
 ·rw[List.map_set,hL]
  refine List.ext_getElem? λi=>?_
  rw[List.getElem?_set];split
  ·next e=>
   subst e;rw[<-hL];simp[hm]
  rfl
 rcases List.mem_or_eq_of_mem_set hx with hx|rfl
 ·obtain⟨lo,h⟩:=hn x hx;exact⟨lo,hk h⟩
 exact⟨lo,hk hv⟩
theorem qP(a:ck)(vr vn vt ve vw:Value)(w:World)(hA:ej w a vr vn vt ve vw)(hn:a.res.length<=100000)(wu:∀r∈a.res,r.names.length<=100000)(he:a.cW.length<=100000):
  Calls prog 51 #[.agg (aC a vr vn vt ve vw)] w λe w'=>(∃v,e=.returned v/\EL w' v a)/\Fp ab w w':=by
 have f0:=aa w (.cells (aC a vr vn vt ve vw) aT);have f1:=aa (w.alloc (.cells (aC a vr vn vt ve vw) aT)) (.cells fq aT);have r0:=f1.heap (heap_alloc_new w (.cells (aC a vr vn vt ve vw) aT)) id;have r1:=heap_alloc_new (w.alloc (.cells (aC a vr vn vt ve vw) aT)) (.cells fq aT);rw[show(w.alloc (.cells (aC a vr vn vt ve vw) aT)).heap.size=w.heap.size+1 from by simp]at r1
 obtain⟨W2,gS⟩:∃W2,W2=(w.alloc (.cells (aC a vr vn vt ve vw) aT)).alloc (.cells fq aT):=⟨_,rfl⟩;have hF:=f0.then f1;rw[<-gS]at r0 r1 hF;have YB:=hA.af hF;obtain⟨L,Nf,Pv,TJ⟩:=YB.r.ex;have hc:=GR vr L W2 Pv (by rw[<-Nf,List.length_map]at hn;exact hn)
 have db:=(Array.getElem?_eq_some_iff.1 r1).1;have HX:=zI (yI hF (yI r0 (yI r1 (yI YB (yI Nf (yI TJ (yI db (yI wu he))))))));have HC:=zI hc;obtain⟨_,_,_,_,c4,_⟩:=bj r0;rw[gS]at c4;have SL:=zI hA.eL;obtain⟨u1,k1,e1⟩:=Pv.shape;obtain⟨n,aR⟩:∃n,n=L.length:=⟨_,rfl⟩;rw[<-aR]at e1;subst e1;have vf:=zI aR;have jS:n<=100000:=by rw[aR,<-List.length_map (f:=Rw.r),Nf];exact hn
 clear f0 f1 r0 r1 hF YB Nf Pv TJ hc db aR hA hn wu he;go_enter func51,ntmps51
 go_wp2_with fail
 rw[<-gS];clear gS c4;refine HC.mono ?_;rintro e w3⟨v3,rfl,h3⟩;obtain⟨sA,sK,e3⟩:=(dT.sg gZ h3.own).shape;rw[<-vf.out]at e3;subst e3;have B3:=h3.fp.heap HX.2.1 id;obtain⟨_,_,_,_,c4,_⟩:=bj B3;have z4:=ae B3 4;have r4:=heap_setCell_same w3 w.heap.size 4 _ aT (.slice sA n sK) B3;have f4:=bd w3 w.heap.size 4 (.slice sA n sK);have c4':(w3.setCell ⟨w.heap.size,4,none⟩ (.slice sA n sK)).cell? ⟨w.heap.size,4,none⟩=some (.slice sA n sK):=by rw[cell_of_row _ _ _ _ _ _ r4];rfl
 have H0:Hid (Lh w W2 a (.slice sA n sK) vn vt ve vw (w3.setCell ⟨w.heap.size,4,none⟩ (.slice sA n sK))):=by
  have db:=HX.2.2.2.2.2.2.1;have h3s:=h3.fp.size
  have hB:Bl (λk=>k=w.heap.size) w3 (w3.setCell ⟨w.heap.size,4,none⟩ (.slice sA n sK)):=⟨f4,λk hk=>by
   have hk:k=w.heap.size:=hk;subst hk;exact .inr ⟨_,_,B3,kE SL.1 SL.2.1 SL.2.2.1 SL.2.2.2.1 SL.2.2.2.2⟩⟩
  exact⟨r4,f4.heap (h3.fp.heap HX.2.2.1 id) (λe=>by have e:w.heap.size+1=w.heap.size:=e;omega),⟨L,HX.2.2.2.2.1,f4.owns h3.own (λk hk e=>by have h1:=(h3.own.lt k hk).1;have e:k=w.heap.size:=e;omega),λx hx=>by obtain⟨lo,h⟩:=HX.2.2.2.2.2.1 x hx;exact⟨lo,(h.dU h3.fp).off hB⟩⟩,(h3.fp.any).trans f4 (λk hk=>.inl hk)⟩
 clear h3 B3 r4 f4 HC;go_wp2_with fail
 generalize World.setCell w3 _ _=W4 at *;go_loopw [12] (λi wr=>∃m:Nat,m<=n/\i=.int .i64 m/\Hid (Lh w W2 a (.slice sA n sK) vn vt ve vw wr)) (λi _=>n-(RowKit.intOf i).toNat)
 case atStart=>exact⟨0,Nat.zero_le _,rfl,H0⟩
 clear H0 c4 z4 c4';obtain⟨m,hm,rfl,hR⟩:=hrel;by_cases ay:m<n
 ·obtain⟨L2,g1,g2,g3⟩:=hR.ow
  have lu:L2.length=n:=by rw[vf.out,<-List.length_map (f:=Rw.r),g1,<-HX.2.2.2.2.1,List.length_map]
  have sv:m<L2.length:=by omega
  obtain⟨G,cap,e,hG1,hG2⟩:=g2.ex (by omega)
  injection e with e1 e2 e3
  subst e1;clear e2 e3;obtain⟨g',o',aY,e',aq⟩:=(dT.sg gZ g2).at (by omega)
  injection e' with e1 e2 e3
  injection e1 with e1
  injection e1 with e1 e4 _
  subst e1 e4;clear e2 e3;have Q4:=(aq m sv).get 4 _ rfl;rw[Nat.zero_add]at Q4;obtain⟨lo,hn5⟩:=g3 _ (List.getElem_mem sv);have hlen:=HX.2.2.2.2.2.2.2.1 L2[m].r (by rw[<-g1];exact List.mem_map.2 ⟨_,List.getElem_mem sv,rfl⟩)
  have vY:=Hn lo _ _ wr hn5 hlen;obtain⟨_,_,_,_,c4,_⟩:=bj hR.bx;have HP:=zI (yI g1 (yI g2 (yI g3 (yI hG1 (yI sv Q4)))));unfold Rw.nv at vY;unfold Rw.nv at Q4;obtain⟨nl,uL⟩:∃z,z=L2[m].r.names.length:=⟨_,rfl⟩;rw[<-uL]at vY Q4;generalize L2[m].na=na0 at *;generalize L2[m].nc=nc0 at *;have HC5:=zI vY;have xB:=zI (yI uL ay);have q3:((m:Int)<(n:Int))=True:=eq_true (by omega)
  have q4:(m<n)=True:=eq_true ay;clear g1 g2 g3 lu hG1 hG2 aq hn5 hlen vY uL ay;go_wp2_with fail
  refine HC5.mono ?_;rintro e w5⟨v5,rfl,YC,f5⟩;obtain⟨a5,k5,e5⟩:=YC.shape;have HO5:=zI YC;have lE:=Lh.put (hR.af f5) HX.2.2.2.2.2.2.1 HP.1 (HP.2.1.af f5) (λx hx=>by obtain⟨lo,h⟩:=HP.2.2.1 x hx;exact⟨lo,h.dU f5⟩) m HP.2.2.2.2.1 a5 k5 (by rw[<-e5];exact HO5.out) HP.2.2.2.1
  rw[<-xB.1]at e5 lE;subst e5;have x4:=f5.cell Q4 id;have z4:=lE.2;have hM:=zI lE.1;have eJ:=xB.2;clear lE YC HO5 f5 Q4 c4;go_wp2;go_roundw
  case rel=>exact⟨m+1,by omega,by go_num,hM⟩
  case measure=>simp[RowKit.intOf];omega
 have vQ:m=n:=by omega
 subst vQ;have q3:((m:Int)<(m:Int))=False:=eq_false (by omega)
 have hB:Bl (λk=>k=w.heap.size) W2 wr:=⟨hR.fr,λk hk=>by
  have hk:k=w.heap.size:=hk;subst hk;exact .inr ⟨_,_,HX.2.1,kE SL.1 SL.2.1 SL.2.2.1 SL.2.2.2.1 SL.2.2.2.2⟩⟩
 have uW:=qD ve a.cW wr (HX.2.2.2.1.e.off hB) HX.2.2.2.2.2.2.2.2;obtain⟨_,_,_,_,_,_,_,c7,_⟩:=bj hR.bx;have TZ:=zI uW;obtain⟨ue,ne,ke,rfl⟩:=SL.2.2.2.1;clear uW hB ay hm;go_wp2_with fail
 refine TZ.mono ?_;rintro e w6⟨v6,rfl,h6⟩;have HE6:=zI (show mB w6 v6 a.cW from h6.own.ns);have Li:=hR.af h6.fp;obtain⟨u6,k6,rfl⟩:=HE6.shape;generalize a.cW.length=n6 at *;obtain⟨_,_,_,_,_,_,_,d7,_⟩:=bj Li.bx;have z7:=ae Li.bx 7;have r7:=heap_setCell_same w6 w.heap.size 7 _ aT (.slice u6 n6 k6) Li.bx;have f7:=bd w6 w.heap.size 7 (.slice u6 n6 k6);have db:=HX.2.2.2.2.2.2.1
 have YD:Bl (λk=>k=w.heap.size) w6 (w6.setCell ⟨w.heap.size,7,none⟩ (.slice u6 n6 k6)):=⟨f7,λk hk=>by
  have hk:k=w.heap.size:=hk;subst hk;exact .inr ⟨_,_,Li.bx,kE ⟨_,_,_,rfl⟩ SL.2.1 SL.2.2.1 ⟨_,_,_,rfl⟩ SL.2.2.2.2⟩⟩
 have V1:Bl (λk=>k=w.heap.size) W2 (w6.setCell ⟨w.heap.size,7,none⟩ (.slice u6 n6 k6)):=⟨Li.fr.same f7,λk hk=>by
  have hk:k=w.heap.size:=hk;subst hk;exact .inr ⟨_,_,HX.2.1,kE SL.1 SL.2.1 SL.2.2.1 SL.2.2.2.1 SL.2.2.2.2⟩⟩
 have RS:=zI (show(w6.setCell ⟨w.heap.size,7,none⟩ (.slice u6 n6 k6)).heap[w.heap.size+1]?=some (.cells fq aT (0,0)) from f7.heap Li.rs (λe=>by have e:w.heap.size+1=w.heap.size:=e;omega))
 have BX:=zI (show(w6.setCell ⟨w.heap.size,7,none⟩ (.slice u6 n6 k6)).heap[w.heap.size]?=some (.cells (aC a (.slice sA m sK) vn vt (.slice u6 n6 k6) vw) aT (0,0)) from r7);obtain⟨L2,g1,g2,g3⟩:=Li.ow
 have hA7:ej (w6.setCell ⟨w.heap.size,7,none⟩ (.slice u6 n6 k6)) a (.slice sA m sK) vn vt (.slice u6 n6 k6) vw:=
  ⟨⟨L2,g1,dT.sg gZ (f7.owns g2 (λk hk e=>by have h1:=(g2.lt k hk).1;have e:k=w.heap.size:=e;omega)),λx hx=>by obtain⟨lo,h⟩:=g3 x hx;exact⟨lo,h.off YD⟩⟩,HX.2.2.2.1.n.off V1,HX.2.2.2.1.t.off V1,HE6.off YD,by obtain⟨lo,h⟩:=HX.2.2.2.1.w;exact⟨lo,J2.off h V1⟩⟩
 have A7:=zI hA7;have F7:=zI (show Fp ab w (w6.setCell ⟨w.heap.size,7,none⟩ (.slice u6 n6 k6)) from HX.1.trans (Li.fr.same f7) (λk hk=>.inr (by have hk:k=w.heap.size:=hk;omega)))
 clear h6 Li r7 f7 db YD V1 g1 g2 g3 hA7 c7
 go_wp2_with (first
  |(refine de (by rfl) aT _ rfl _ _ rfl (j9 bw BX rfl) ?_)
  |(refine ak rfl aT _ _ rfl _ _ rfl rfl (aA bw (cs:=aC a (.slice sA m sK) vn vt (.slice u6 n6 k6) vw) RS rfl rfl (aD ⟨⟨_,_,_,rfl⟩,SL.2.1,SL.2.2.1,⟨_,_,_,rfl⟩,SL.2.2.2.2⟩)) ?_))
 have HE:Hid ((∃v,Ending.returned (.agg (aC a (.slice sA m sK) vn vt (.slice u6 n6 k6) vw))=.returned v/\EL (World.setRow (w6.setCell ⟨w.heap.size,7,none⟩ (.slice u6 n6 k6)) (w.heap.size+1) (aC a (.slice sA m sK) vn vt (.slice u6 n6 k6) vw)) v a)/\Fp ab w (World.setRow (w6.setCell ⟨w.heap.size,7,none⟩ (.slice u6 n6 k6)) (w.heap.size+1) (aC a (.slice sA m sK) vn vt (.slice u6 n6 k6) vw))):=by
  have G:=av (w6.setCell ⟨w.heap.size,7,none⟩ (.slice u6 n6 k6)) (w.heap.size+1) (aC a (.slice sA m sK) vn vt (.slice u6 n6 k6) vw)
  have hB:Bl (λk=>k=w.heap.size+1) (w6.setCell ⟨w.heap.size,7,none⟩ (.slice u6 n6 k6)) (World.setRow (w6.setCell ⟨w.heap.size,7,none⟩ (.slice u6 n6 k6)) (w.heap.size+1) (aC a (.slice sA m sK) vn vt (.slice u6 n6 k6) vw)):=⟨G,λk hk=>by
   have hk:k=w.heap.size+1:=hk;subst hk;exact .inr ⟨_,_,RS.out,qG⟩⟩
  exact⟨⟨_,rfl,_,_,_,_,_,rfl,A7.off hB⟩,F7.trans G (λk hk=>.inr (by have hk:k=w.heap.size+1:=hk;omega))⟩
 obtain⟨z0,z1,z2,z3,z4,z5,z6,z7,z8,z9⟩:=bj (aj (cs:=aC a (.slice sA m sK) vn vt (.slice u6 n6 k6) vw) RS.out);generalize World.setRow (w6.setCell ⟨w.heap.size,7,none⟩ (.slice u6 n6 k6)) (w.heap.size+1) (aC a (.slice sA m sK) vn vt (.slice u6 n6 k6) vw)=wz at *;go_wp2;refine bodyPost_ret (v:=.agg (aC a (.slice sA m sK) vn vt (.slice u6 n6 k6) vw)) (by simp[results,results51,go_sem,z0,z1,z2,z3,z4,z5,z6,z7,z8,z9,aC]) rfl ?_
 exact HE.out
end
section
open Go.RowKit Pm
attribute [local irreducible] wpStill
abbrev PF:Value:=.agg #[.nilFunc,.func (.func 86) #[] #[],.func (.func 87) #[] #[],.func (.func 88) #[] #[],.func (.func 89) #[] #[],.func (.func 90) #[] #[],.func (.func 91) #[] #[],.func (.func 92) #[] #[],.func (.func 93) #[] #[],.func (.func 94) #[] #[],.func (.func 95) #[] #[]]
theorem DI(w:World):Calls prog 49 #[] w λe w'=>e=.returned PF/\Fp ab w w':=by
 go_enter func49,ntmps49
 go_wp2;exact bodyPost_ret (v:=PF) (by simp[results,results49,go_sem]) rfl ⟨rfl,(Fp.refl ab w).alloc _⟩
theorem Cw{x:JZ}{vp vr vn vt ve vw:Value}(h0:oz vp)(h:oz vr/\oz vn/\oz vt/\oz ve/\oz vw):∀u∈(se x vp vr vn vt ve vw).toList,u.oneCell'=true:=by
 obtain⟨_,_,_,rfl⟩:=h0;obtain⟨⟨_,_,_,rfl⟩,⟨_,_,_,rfl⟩,⟨_,_,_,rfl⟩,⟨_,_,_,rfl⟩,⟨_,_,_,rfl⟩⟩:=h;intro u hu;simp only[se,List.mem_cons,List.not_mem_nil,or_false]at hu
 rcases hu with rfl|rfl|rfl|rfl|rfl|rfl|rfl|rfl|rfl|rfl|rfl|rfl<;>rfl
theorem Lj{W:World}{b:Nat}{x:JZ}{vp vr vn vt ve vw:Value}{T:TypeId}(h:W.heap[b]?=some (.cells (se x vp vr vn vt ve vw) T (0,0))):
  W.cell? ⟨b,0,none⟩=some (.bool x.fin)/\W.cell? ⟨b,1,none⟩=some vp/\W.cell? ⟨b,4,none⟩=some (.bool x.a.yes):=by
 refine⟨?_,?_,?_⟩<;>(rw[cell_of_row _ _ _ _ _ _ h];rfl)
structure V2(w:World)(h:bQ)(t:Int)(y:JZ)(vp vr vn vt ve vw:Value):Prop where
 one:∀u∈(se y vp vr vn vt ve vw).toList,u.oneCell'=true
 ps:oz vp
 an:ej w y.a vr vn vt ve vw
 is:(lk h.dI t=none/\y=⟨false,[],.ok⟩)\/(lk h.dI t=some y/\∃l:List (Nat×Pt),l.map Prod.snd=y.ps/\Sg mf 8 w vp l)
theorem V2.of{w:World}{h:bQ}{t:Int}{v:Value}(cP:lk h.dI t=none->v=.agg (se ⟨false,[],.ok⟩ nS nS nS nS nS nS))(gj:∀a,lk h.dI t=some a->OC w v a):∃y vp vr vn vt ve vw,v=.agg (se y vp vr vn vt ve vw)/\V2 w h t y vp vr vn vt ve vw:=by
 have hz:oz (.slice none 0 0):=⟨none,0,0,rfl⟩;cases hl:lk h.dI t with
 |none=>exact⟨_,_,_,_,_,_,_,cP hl,Cw hz ⟨hz,hz,hz,hz,hz⟩,hz,ej.ok w 0 0 false 0,.inl ⟨hl,rfl⟩⟩
 |some y=>?_
 obtain⟨vp,vr,vn,vt,ve,vw,e,⟨l,h1,h2⟩,h3⟩:=(gj y hl).ex;have hp:oz vp:=by obtain⟨a,c,e⟩:=h2.shape;exact⟨_,_,_,e⟩
 exact⟨_,_,_,_,_,_,_,e,Cw hp h3.eL,hp,h3,.inr ⟨hl,l,h1,h2⟩⟩
theorem Ho(q a x d:Nat)(h:bQ)(c:Cd)(vp vn vt vg:Value)(N B0:Nat)(w:World)(hS:iR w q a x d h)(hI:Inv N B0 h)(hN:N<=3800)(hB:B0<=30000)(hc:0<=c.bu/\c.bu<=281474976710656)(hn:h.dI.length<=1000000)(ht:xL q a x d w):
  Calls prog 88 #[.pointer (some ⟨q,0,none⟩),.agg (kg c vp vn vt vg)] w (bN q a x d (il h c.bu c.yes) w):=by
 have ay:=hS.lt;obtain⟨fS,fT,KY,JA,TB,QY,hP⟩:=hS.ex;obtain⟨v,sq,cP,gj⟩:=hP.dI.look (T:=EK) Tryz.underlying100 G8 hc;obtain⟨y,tp,lA,jK,iN,lB,lC,rfl,hQ⟩:=V2.of cP gj;obtain⟨ah,nh,ch,rfl⟩:∃a n c,JA=.slice a n c:=by obtain⟨a,c,e⟩:=hP.v.hh.shape;exact⟨a,_,c,e⟩
 obtain⟨ta,tl,tc,rfl⟩:=hQ.ps;have hF:=Fr.made w c vp vn vt vg;obtain⟨W2,gS⟩:∃W2,W2=(w.alloc (.cells (kg c vp vn vt vg) sr)).alloc (.cells fq aT):=⟨_,rfl⟩;rw[<-gS]at hF;have hq:=λW (f:Fp ab W2 W)=>yI (((hP.af hF.fp).af f).cell 7 (v:=.map (some x)) rfl) (yI ((hF.later f).cell 2 (v:=.int .i64 c.bu) rfl) (sq W (hF.fp.then f)))
 have HQ:=zI hq;have dr:=zI hF;have HP:=zI (yI ay (yI hS (yI hP (yI hc (yI hn hI)))));have HT:=zI (yI hQ (yI hN (yI hB ht)));obtain⟨yes,hyy⟩:∃b,b=c.yes:=⟨_,rfl⟩;have HY:=zI hyy;clear ay hS hP hc hn hI sq cP gj hF hq hN hB ht hQ hyy;go_enter func88,ntmps88
 go_wp2_with fail
 rw[<-gS];clear gS;refine wp_region_held_drew (S:=(λw'=>w'.cell? ⟨q,7,none⟩=some (.map (some x))/\w'.cell? ⟨w.heap.size,2,none⟩=some (.int .i64 c.bu)/\(Instr.lookup EK (.map (some x)) (.int .i64 c.bu) true).run prog w'=.ok (.tuple #[.agg (se y (.slice ta tl tc) lA jK iN lB lC),.bool (lk h.dI c.bu).isSome]) w')) (by kernel_rfl) ?_ (λhH=>?_)
 ·exact HQ _ ((Fp.refl ab _).drew)
 refine aF 0 hH ?_;refine aF 1 hH ?_;refine aF 2 hH ?_;refine aF 3 hH ?_;refine aF 4 hH ?_;refine aF 5 hH ?_;refine aF 6 hH ?_;refine aF 7 hH ?_;refine aF 8 hH ?_;refine aF 9 hH ?_;refine rY 10 (λK hK=>?_)
 go_simp;have uM:=zI (show((World.alloc W2 (.cells #[.bool false,.slice none 0 0,.int .i64 0,.int .i64 0,.bool false,.int .i64 0,.slice none 0 0,.slice none 0 0,.slice none 0 0,.slice none 0 0,.slice none 0 0,.slice none 0 0] Cc)).drew).heap[W2.heap.size]?=_ from heap_alloc_new W2 (.cells #[.bool false,.slice none 0 0,.int .i64 0,.int .i64 0,.bool false,.int .i64 0,.slice none 0 0,.slice none 0 0,.slice none 0 0,.slice none 0 0,.slice none 0 0,.slice none 0 0] Cc));have nw:=zI ((aa W2 (.cells #[.bool false,.slice none 0 0,.int .i64 0,.int .i64 0,.bool false,.int .i64 0,.slice none 0 0,.slice none 0 0,.slice none 0 0,.slice none 0 0,.slice none 0 0,.slice none 0 0] Cc)).drew);go_wp2_with fail
 refine hK _ _ (HQ _ nw.out) (λhH=>?_)
 clear hK K;try simp only[zz]
 generalize ((World.alloc W2 (.cells #[.bool false,.slice none 0 0,.int .i64 0,.int .i64 0,.bool false,.int .i64 0,.slice none 0 0,.slice none 0 0,.slice none 0 0,.slice none 0 0,.slice none 0 0,.slice none 0 0] Cc)).drew)=w3 at *;refine rY 11 (λK hK=>?_)
 refine step_st rfl Cc _ _ rfl _ _ rfl rfl (aA Tb uM rfl rfl HT.1.one) ?_;have qK:=zI (nw.trans (av w3 W2.heap.size (se y (.slice ta tl tc) lA jK iN lB lC)) (λk hk=>.inr (by have hk:k=W2.heap.size:=hk;omega)))
 have tw:=zI (aj (cs:=(se y (.slice ta tl tc) lA jK iN lB lC)) uM.out);refine hK _ _ (HQ _ qK.out) (λhH=>?_)
 clear hK K;try simp only[zz]
 refine aF 12 hH ?_;refine yD ?_;clear uM nw;generalize (World.setRow w3 W2.heap.size (se y (.slice ta tl tc) lA jK iN lB lC))=W3 at *;have HF:=zI (dr.later qK.out);have mc:=dr.fp.size;have vM:=(Array.getElem?_eq_some_iff.1 dr.rs).1;obtain⟨B3,T0⟩:∃b,b=W2.heap.size:=⟨_,rfl⟩;rw[<-T0]at tw|-;have Lk:=zI (show w.heap.size+1<B3 from by omega)
 clear mc vM T0 qK dr HQ;obtain⟨b0,b1,b4⟩:=Lj tw.out;have c4:W3.cell? ⟨w.heap.size,4,none⟩=some (.bool yes):=by rw[HY.out];exact HF.cell 4 rfl
 rcases HT.1.is with⟨hl,Ll⟩|⟨hl,l,rO,lu⟩
 ·simp only[hl,Option.isSome_none]
  have bf:y.fin=false:=by rw[Ll]
  rw[bf]at b0;cases yes with
  |true=>
   have HD:=zI (show il h c.bu c.yes=(h,.no 62) from by unfold il;rw[hl];simp[<-HY.out])
   clear hl Ll bf hH;go_wp2_with fail
   refine(bF 62 _).mono ?_;rintro e w9⟨rfl,f9⟩;have F9:=zI (HF.later f9);clear f9;go_wp2_with (refine ak rfl aT _ _ rfl _ _ rfl rfl (aA bw (cs:=aC (.no 62) nS nS nS nS nS) F9.rs rfl rfl (aD ⟨⟨none,0,0,rfl⟩,⟨none,0,0,rfl⟩,⟨none,0,0,rfl⟩,⟨none,0,0,rfl⟩,⟨none,0,0,rfl⟩⟩)) ?_)
   obtain⟨z0,z1,z2,z3,z4,z5,z6,z7,z8,z9⟩:=bj (aj (cs:=aC (.no 62) nS nS nS nS nS) F9.rs);have HE:=zI (bN.fin (r:=(h,.no 62)) F9.fp.any F9.rs HP.1 (HP.2.1.af F9.fp) (ej.ok w9 62 0 false 0));generalize World.setRow w9 (w.heap.size+1) (aC (.no 62) nS nS nS nS nS)=wz at *;go_wp2;refine bodyPost_ret (v:=.agg (aC (.no 62) nS nS nS nS nS)) (by simp[results,results88,go_sem,z0,z1,z2,z3,z4,z5,z6,z7,z8,z9,aC]) rfl ?_
   rw[HD.out];exact HE.out
  |false=>?_
  have hlen:=(HP.2.2.1.af HF.fp).dI.len (T:=EK) Tryz.underlying100;have c7:=(HP.2.2.1.af HF.fp).cell 7 (v:=.map (some x)) rfl;obtain⟨n,aR⟩:∃n,n=h.dI.length:=⟨_,rfl⟩;rw[<-aR]at hlen;by_cases h128:n=128
  ·have HD:=zI (show il h c.bu c.yes=(h,.no 2) from by unfold il;rw[hl];simp[<-HY.out,<-aR,h128])
   have q1:((n:Int)=128)=True:=eq_true (by omega)
   have q2:((n:Int) == 128)=true:=by rw[beq_iff_eq];omega
   have vf:=zI aR;clear hl Ll bf aR h128 hH;go_wp2_with fail
   refine(bF 2 _).mono ?_;rintro e w9⟨rfl,f9⟩;have F9:=zI (HF.later f9);clear f9;go_wp2_with (refine ak rfl aT _ _ rfl _ _ rfl rfl (aA bw (cs:=aC (.no 2) nS nS nS nS nS) F9.rs rfl rfl (aD ⟨⟨none,0,0,rfl⟩,⟨none,0,0,rfl⟩,⟨none,0,0,rfl⟩,⟨none,0,0,rfl⟩,⟨none,0,0,rfl⟩⟩)) ?_)
   obtain⟨z0,z1,z2,z3,z4,z5,z6,z7,z8,z9⟩:=bj (aj (cs:=aC (.no 2) nS nS nS nS nS) F9.rs);have HE:=zI (bN.fin (r:=(h,.no 2)) F9.fp.any F9.rs HP.1 (HP.2.1.af F9.fp) (ej.ok w9 2 0 false 0));generalize World.setRow w9 (w.heap.size+1) (aC (.no 2) nS nS nS nS nS)=wz at *;go_wp2;refine bodyPost_ret (v:=.agg (aC (.no 2) nS nS nS nS nS)) (by simp[results,results88,go_sem,z0,z1,z2,z3,z4,z5,z6,z7,z8,z9,aC]) rfl ?_
   rw[HD.out];exact HE.out
  have HD:=zI (show il h c.bu c.yes=(gH h c.bu,.ok) from by unfold il;rw[hl];simp[<-HY.out,<-aR,h128])
  have q1:((n:Int)=128)=False:=eq_false (by omega)
  have q2:((n:Int) == 128)=false:=by rw[beq_eq_false_iff_ne];omega
  have vf:=zI aR;clear hl Ll bf aR h128 hH;have Lm:=zI (HP.2.2.1.af HF.fp);have YE:=zI (λW (f:Fp ab W3 W)=>yI ((Lm.af f).cell 7 (v:=.map (some x)) rfl) ((HF.later f).cell 2 (v:=.int .i64 c.bu) rfl))
  have eR:=(Lm.af (Fp.refl ab W3).drew).dI.Ca (T:=EK) Tryz.underlying100 HP.2.2.2.1 (.agg (se ⟨true,[],.ok⟩ nS nS nS nS nS nS)) ⟨true,[],.ok⟩ HP.2.2.2.2.1 (λw' _=>⟨_,_,_,_,_,_,rfl,⟨[],rfl,Sg.nil w'⟩,ej.ok w' 0 0 false 0⟩) (λw' f v t h=>h.off ((Lm.af (Fp.refl ab W3).drew).one (.inr (.inr (.inl rfl))) f))
  have Ds:=zI eR;clear eR;go_wp2_with fail
  refine wp_region_held_drew (S:=(λw'=>w'.cell? ⟨q,7,none⟩=some (.map (some x))/\w'.cell? ⟨w.heap.size,2,none⟩=some (.int .i64 c.bu))) (by kernel_rfl) ?_ (λhH=>?_)
  ·exact YE _ ((Fp.refl ab _).drew)
  refine aF 0 hH ?_;refine aF 1 hH ?_;refine aF 2 hH ?_;refine aF 3 hH ?_;refine aF 4 hH ?_;refine aF 5 hH ?_;refine aF 6 hH ?_;obtain⟨w5,pO,Nc⟩:=Ds.out;have xK:=zI Nc;have La:=zI pO;clear Nc pO Ds;refine rY 7 (λK hK=>?_)
  refine step_upd rfl EK _ _ _ rfl _ _ _ rfl rfl rfl La.out ?_;have T3:=HP.1 x (.inr (.inr (.inl rfl)));have db:=HF.fp.size;have vM:=(Array.getElem?_eq_some_iff.1 HF.rs).1;have YF:=zI (xK.fp.heap (show W3.drew.heap[B3]?=_ from tw.out) (λe=>by have e:B3=x:=e;have:=Lk.out;omega))
  have Ln:=zI (xK.fp.heap (show W3.drew.heap[w.heap.size+1]?=_ from HF.rs) (λe=>by have e:w.heap.size+1=x:=e;omega))
  have Lo:=zI (xK.fp.heap (show W3.drew.heap[w.heap.size]?=_ from HF.cb) (λe=>by have e:w.heap.size=x:=e;omega))
  have P5:=zI ((Lm.af (Fp.refl ab W3).drew).G9 xK.out);have F5:=zI (show Fp (Bk q a x d) w w5 from(HF.fp.drew.any).trans xK.fp (λk hk=>.inl (.inr (.inr (.inl hk)))))
  refine hK _ _ ⟨P5.cell 7 rfl,pQ Lo.out 2 rfl⟩ (λhH=>?_)
  clear hK K T3 db vM;try simp only[zz]
  refine yD ?_;go_wp2_with fail
  refine wp_region_held_drew (S:=(λw'=>w'.cell? ⟨w.heap.size,2,none⟩=some (.int .i64 c.bu))) (by kernel_rfl) ?_ (λhH=>?_)
  ·exact(pQ (show w5.drew.heap[w.heap.size]?=_ from Lo.out) 2 rfl)
  refine aF 0 hH ?_;refine aF 1 hH ?_;refine aF 2 hH ?_;refine aF 3 hH ?_;refine aF 5 hH ?_;refine aF 6 hH ?_;have PG:=zI (P5.af (Fp.refl ab w5).drew);have c3:=PG.cell 3 (v:=.slice ah nh ch) rfl;refine rY 4 (λK hK=>?_)
  go_simp;go_wp2_with fail
  refine hK _ _ (pQ (show w5.drew.heap[w.heap.size]?=_ from Lo.out) 2 rfl) (λhH=>?_)
  clear hK K;try simp only[zz]
  clear c3;refine rY 7 (λK hK=>?_)
  go_simp;refine(Hs (.slice ah nh ch) h.hs c.bu _ PG.v.hh HP.2.2.2.2.2.fF (by have:=HP.2.2.2.2.2.hn;omega)).mono ?_
  rintro e w6⟨v6,rfl,h6⟩;have F6:=zI (show Fp ab w5.drew w6 from h6.fp);have N6:=zI (show di w6 v6 (mw h.hs c.bu) from h6.own.ns);clear h6;obtain⟨a6,c6,rfl⟩:=N6.shape;generalize AD:(mw h.hs c.bu).length=n6 at *;clear AD;have Nk:=zI (F6.heap (show w5.drew.heap[w.heap.size]?=_ from Lo.out) id);have qQ:=zI (F6.heap (show w5.drew.heap[w.heap.size+1]?=_ from Ln.out) id);have YG:=zI (F6.heap (show w5.drew.heap[B3]?=_ from YF.out) id);have P6:=zI (PG.af F6.out);go_wp2_with fail
  refine hK _ _ (pQ Nk.out 2 rfl) (λhH=>?_)
  clear hK K;try simp only[zz]
  refine aF 8 hH ?_;refine aF 9 hH ?_;obtain⟨x3,y3,ba,kA⟩:=Au P6.row (.slice a6 n6 c6);have nN:=zI (yI ba kA);clear ba kA;refine rY 10 (λK hK=>?_)
  go_simp;have P7:=zI (P6.QS (g:=gH h c.bu) nN.2 nN.1 ⟨P6.v.n,P6.v.t,P6.v.r,N6.out,P6.v.w⟩ rfl rfl rfl);have F7:=zI (show Fp (Bk q a x d) w (w6.setCell ⟨q,3,none⟩ (.slice a6 n6 c6)) from(F5.drew.then F6.out).trans nN.2 (λk hk=>.inl (.inl hk)))
  have EW:=HP.1 q (.inl rfl);have db:=HF.fp.size;have vM:=(Array.getElem?_eq_some_iff.1 HF.rs).1;have YH:=zI (nN.2.heap YG (λe=>by have e:B3=q:=e;have:=Lk.out;omega))
  have AE:=zI (nN.2.heap qQ (λe=>by have e:w.heap.size+1=q:=e;omega))
  have PH:=zI (nN.2.heap Nk (λe=>by have e:w.heap.size=q:=e;omega))
  go_wp2_with fail
  refine hK _ _ (pQ PH.out 2 rfl) (λhH=>?_)
  clear hK K;try simp only[zz]
  clear EW db vM x3 y3;generalize World.setCell w6 _ _=w7 at *;refine yD ?_;have c4:w7.cell? ⟨w.heap.size,4,none⟩=some (.bool false):=by rw[HY.out];exact pQ PH.out 4 rfl
  obtain⟨b0,b1,b4⟩:=Lj YH.out;go_wp2_with (refine ak rfl aT _ _ rfl _ _ rfl rfl (aA bw (cs:=aC .ok nS nS nS nS nS) AE rfl rfl (aD ⟨⟨none,0,0,rfl⟩,⟨none,0,0,rfl⟩,⟨none,0,0,rfl⟩,⟨none,0,0,rfl⟩,⟨none,0,0,rfl⟩⟩)) ?_)
  obtain⟨z0,z1,z2,z3,z4,z5,z6,z7,z8,z9⟩:=bj (aj (cs:=aC .ok nS nS nS nS nS) AE.out);have HE:=zI (bN.fin (r:=(gH h c.bu,.ok)) F7 AE HP.1 ⟨_,_,_,_,_,_,P7.out⟩ (ej.ok w7 0 0 false 0));generalize World.setRow w7 (w.heap.size+1) (aC .ok nS nS nS nS nS)=wz at *;go_wp2;refine bodyPost_ret (v:=.agg (aC .ok nS nS nS nS nS)) (by simp[results,results88,go_sem,z0,z1,z2,z3,z4,z5,z6,z7,z8,z9,aC]) rfl ?_
  rw[HD.out];exact HE.out
 simp only[hl,Option.isSome_some]
 cases bf:y.fin with
 |true=>
  have HD:=zI (show il h c.bu c.yes=(h,.ok) from by unfold il;rw[hl];simp[bf])
  rw[bf]at b0;clear hl rO lu bf hH;go_wp2_with (refine ak rfl aT _ _ rfl _ _ rfl rfl (aA bw (cs:=aC .ok nS nS nS nS nS) HF.rs rfl rfl (aD ⟨⟨none,0,0,rfl⟩,⟨none,0,0,rfl⟩,⟨none,0,0,rfl⟩,⟨none,0,0,rfl⟩,⟨none,0,0,rfl⟩⟩)) ?_)
  obtain⟨z0,z1,z2,z3,z4,z5,z6,z7,z8,z9⟩:=bj (aj (cs:=aC .ok nS nS nS nS nS) HF.rs);have HE:=zI (bN.fin (r:=(h,.ok)) HF.fp.any HF.rs HP.1 (HP.2.1.af HF.fp) (ej.ok W3 0 0 false 0));generalize World.setRow W3 (w.heap.size+1) (aC .ok nS nS nS nS nS)=wz at *;go_wp2;refine bodyPost_ret (v:=.agg (aC .ok nS nS nS nS nS)) (by simp[results,results88,go_sem,z0,z1,z2,z3,z4,z5,z6,z7,z8,z9,aC]) rfl ?_
  rw[HD.out];exact HE.out
 |false=>?_
 have HL:=zI (yI hl (yI rO (yI lu bf)));rw[bf]at b0;clear hl rO lu bf hH;have Lm:=zI (HP.2.2.1.af HF.fp);have YE:=zI (λW (f:Fp ab W3 W)=>yI ((Lm.af f).cell 7 (v:=.map (some x)) rfl) ((HF.later f).cell 2 (v:=.int .i64 c.bu) rfl))
 have eR:=(Lm.af (Fp.refl ab W3).drew).dI.Ca (T:=EK) Tryz.underlying100 HP.2.2.2.1 (.agg (se ⟨true,[],.ok⟩ nS nS nS nS nS nS)) ⟨true,[],.ok⟩ HP.2.2.2.2.1 (λw' _=>⟨_,_,_,_,_,_,rfl,⟨[],rfl,Sg.nil w'⟩,ej.ok w' 0 0 false 0⟩) (λw' f v t h=>h.off ((Lm.af (Fp.refl ab W3).drew).one (.inr (.inr (.inl rfl))) f))
 have Ds:=zI eR;clear eR;go_wp2_with fail
 refine wp_region_held_drew (S:=(λw'=>w'.cell? ⟨q,7,none⟩=some (.map (some x))/\w'.cell? ⟨w.heap.size,2,none⟩=some (.int .i64 c.bu))) (by kernel_rfl) ?_ (λhH=>?_)
 ·exact YE _ ((Fp.refl ab _).drew)
 refine aF 0 hH ?_;refine aF 1 hH ?_;refine aF 2 hH ?_;refine aF 3 hH ?_;refine aF 4 hH ?_;refine aF 5 hH ?_;refine aF 6 hH ?_;obtain⟨w5,pO,Nc⟩:=Ds.out;have xK:=zI Nc;have La:=zI pO;clear Nc pO Ds;refine rY 7 (λK hK=>?_)
 refine step_upd rfl EK _ _ _ rfl _ _ _ rfl rfl rfl La.out ?_;have T3:=HP.1 x (.inr (.inr (.inl rfl)));have db:=HF.fp.size;have vM:=(Array.getElem?_eq_some_iff.1 HF.rs).1;have YF:=zI (xK.fp.heap (show W3.drew.heap[B3]?=_ from tw.out) (λe=>by have e:B3=x:=e;have:=Lk.out;omega))
 have Ln:=zI (xK.fp.heap (show W3.drew.heap[w.heap.size+1]?=_ from HF.rs) (λe=>by have e:w.heap.size+1=x:=e;omega))
 have Lo:=zI (xK.fp.heap (show W3.drew.heap[w.heap.size]?=_ from HF.cb) (λe=>by have e:w.heap.size=x:=e;omega))
 have P5:=zI ((Lm.af (Fp.refl ab W3).drew).G9 xK.out);have F5:=zI (show Fp (Bk q a x d) w w5 from(HF.fp.drew.any).trans xK.fp (λk hk=>.inl (.inr (.inr (.inl hk)))))
 refine hK _ _ ⟨P5.cell 7 rfl,pQ Lo.out 2 rfl⟩ (λhH=>?_)
 clear hK K T3 db vM;try simp only[zz]
 refine yD ?_;go_wp2_with fail
 refine wp_region_held_drew (S:=(λw'=>w'.cell? ⟨w.heap.size,2,none⟩=some (.int .i64 c.bu))) (by kernel_rfl) ?_ (λhH=>?_)
 ·exact(pQ (show w5.drew.heap[w.heap.size]?=_ from Lo.out) 2 rfl)
 refine aF 0 hH ?_;refine aF 1 hH ?_;refine aF 2 hH ?_;refine aF 3 hH ?_;refine aF 5 hH ?_;refine aF 6 hH ?_;have PG:=zI (P5.af (Fp.refl ab w5).drew);have c3:=PG.cell 3 (v:=.slice ah nh ch) rfl;refine rY 4 (λK hK=>?_)
 go_simp;go_wp2_with fail
 refine hK _ _ (pQ (show w5.drew.heap[w.heap.size]?=_ from Lo.out) 2 rfl) (λhH=>?_)
 clear hK K;try simp only[zz]
 clear c3;refine rY 7 (λK hK=>?_)
 go_simp;refine(Hs (.slice ah nh ch) h.hs c.bu _ PG.v.hh HP.2.2.2.2.2.fF (by have:=HP.2.2.2.2.2.hn;omega)).mono ?_
 rintro e w6⟨v6,rfl,h6⟩;have F6:=zI (show Fp ab w5.drew w6 from h6.fp);have N6:=zI (show di w6 v6 (mw h.hs c.bu) from h6.own.ns);clear h6;obtain⟨a6,c6,rfl⟩:=N6.shape;generalize AD:(mw h.hs c.bu).length=n6 at *;clear AD;have Nk:=zI (F6.heap (show w5.drew.heap[w.heap.size]?=_ from Lo.out) id);have qQ:=zI (F6.heap (show w5.drew.heap[w.heap.size+1]?=_ from Ln.out) id);have YG:=zI (F6.heap (show w5.drew.heap[B3]?=_ from YF.out) id);have P6:=zI (PG.af F6.out);go_wp2_with fail
 refine hK _ _ (pQ Nk.out 2 rfl) (λhH=>?_)
 clear hK K;try simp only[zz]
 refine aF 8 hH ?_;refine aF 9 hH ?_;obtain⟨x3,y3,ba,kA⟩:=Au P6.row (.slice a6 n6 c6);have nN:=zI (yI ba kA);clear ba kA;refine rY 10 (λK hK=>?_)
 go_simp;have P7:=zI (P6.QS (g:=gH h c.bu) nN.2 nN.1 ⟨P6.v.n,P6.v.t,P6.v.r,N6.out,P6.v.w⟩ rfl rfl rfl);have F7:=zI (show Fp (Bk q a x d) w (w6.setCell ⟨q,3,none⟩ (.slice a6 n6 c6)) from(F5.drew.then F6.out).trans nN.2 (λk hk=>.inl (.inl hk)))
 have EW:=HP.1 q (.inl rfl);have db:=HF.fp.size;have vM:=(Array.getElem?_eq_some_iff.1 HF.rs).1;have YH:=zI (nN.2.heap YG (λe=>by have e:B3=q:=e;have:=Lk.out;omega))
 have AE:=zI (nN.2.heap qQ (λe=>by have e:w.heap.size+1=q:=e;omega))
 have PH:=zI (nN.2.heap Nk (λe=>by have e:w.heap.size=q:=e;omega))
 go_wp2_with fail
 refine hK _ _ (pQ PH.out 2 rfl) (λhH=>?_)
 clear hK K;try simp only[zz]
 clear EW db vM x3 y3;generalize World.setCell w6 _ _=w7 at *;refine yD ?_;have c4:w7.cell? ⟨w.heap.size,4,none⟩=some (.bool yes):=by rw[HY.out];exact pQ PH.out 4 rfl
 obtain⟨b0,b1,b4⟩:=Lj YH.out;cases yes with
 |false=>
  have HD:=zI (show il h c.bu c.yes=(gH h c.bu,.ok) from by unfold il;rw[HL.1];simp[<-HY.out,HL.2.2.2])
  go_wp2_with (refine ak rfl aT _ _ rfl _ _ rfl rfl (aA bw (cs:=aC .ok nS nS nS nS nS) AE rfl rfl (aD ⟨⟨none,0,0,rfl⟩,⟨none,0,0,rfl⟩,⟨none,0,0,rfl⟩,⟨none,0,0,rfl⟩,⟨none,0,0,rfl⟩⟩)) ?_)
  obtain⟨z0,z1,z2,z3,z4,z5,z6,z7,z8,z9⟩:=bj (aj (cs:=aC .ok nS nS nS nS nS) AE.out);have HE:=zI (bN.fin (r:=(gH h c.bu,.ok)) F7 AE HP.1 ⟨_,_,_,_,_,_,P7.out⟩ (ej.ok w7 0 0 false 0));generalize World.setRow w7 (w.heap.size+1) (aC .ok nS nS nS nS nS)=wz at *;go_wp2;refine bodyPost_ret (v:=.agg (aC .ok nS nS nS nS nS)) (by simp[results,results88,go_sem,z0,z1,z2,z3,z4,z5,z6,z7,z8,z9,aC]) rfl ?_
  rw[HD.out];exact HE.out
 |true=>?_
 cases hay:y.a.yes with
 |false=>
  have HD:=zI (show il h c.bu c.yes=(gH h c.bu,.ok) from by unfold il;rw[HL.1];simp[<-HY.out,HL.2.2.2,hay])
  rw[hay]at b4;clear hay;go_wp2_with (refine ak rfl aT _ _ rfl _ _ rfl rfl (aA bw (cs:=aC .ok nS nS nS nS nS) AE rfl rfl (aD ⟨⟨none,0,0,rfl⟩,⟨none,0,0,rfl⟩,⟨none,0,0,rfl⟩,⟨none,0,0,rfl⟩,⟨none,0,0,rfl⟩⟩)) ?_)
  obtain⟨z0,z1,z2,z3,z4,z5,z6,z7,z8,z9⟩:=bj (aj (cs:=aC .ok nS nS nS nS nS) AE.out);have HE:=zI (bN.fin (r:=(gH h c.bu,.ok)) F7 AE HP.1 ⟨_,_,_,_,_,_,P7.out⟩ (ej.ok w7 0 0 false 0));generalize World.setRow w7 (w.heap.size+1) (aC .ok nS nS nS nS nS)=wz at *;go_wp2;refine bodyPost_ret (v:=.agg (aC .ok nS nS nS nS nS)) (by simp[results,results88,go_sem,z0,z1,z2,z3,z4,z5,z6,z7,z8,z9,aC]) rfl ?_
  rw[HD.out];exact HE.out
 |true=>?_
 have HD:=zI (show il h c.bu c.yes=((fZ (gH h c.bu) y.ps).1,.ok) from by unfold il;rw[HL.1];simp[<-HY.out,HL.2.2.2,hay])
 have hI:=HP.2.2.2.2.2;have T4:=hI.dI _ (uA HL.1);have Yg:l.length=y.ps.length:=by rw[<-HL.2.1,List.length_map]
 have hN:=HT.2.1
 have hex:=tJ q a x d (gH h c.bu) (.slice ta tl tc) l B0 w7 ⟨_,_,_,_,_,_,P7.out⟩ hI.st (by have h1:=hI.n;have h2:=T4.1;show h.st.nodes.length+l.length<=3900;have h2:y.ps.length<=16:=h2;omega) (by have h1:=hI.m;have h2:y.ps.length<=16:=T4.1;show h.st.turns.length+l.length<=3900;omega) (HL.2.2.1.off (λx=>⟨2,_,rfl⟩) ⟨F7.out,HP.2.1.mF⟩) (by rw[HL.2.1];exact T4.2)
  (λz hz=>by
   have hp:z.2∈y.ps:=by rw[<-HL.2.1];exact List.mem_map.2 ⟨_,hz,rfl⟩
   have:=cy ((bt _).1 (T4.2 z.2 hp)).2.1;omega) (HT.2.2.2.bk F7.out) hI.wd HT.2.2.1
 rw[HL.2.1]at hex;have O4:=zI hex;rw[hay]at b4;clear hay hI T4 Yg hN hex;go_wp2_with fail
 refine O4.mono ?_;rintro e w9 g9;obtain⟨va,rfl,vr9,vn9,vt9,ve9,vw9,rfl,hA⟩:=g9.xF;have mM:=HP.1;have jc:=Lk.out;have RS:=zI (g9.fp.heap AE (λk=>by have:=mM _ k;omega))
 have S9:=zI g9.sh;have YA:=zI (F7.same g9.fp);generalize fZ (gH h c.bu) y.ps=r at *;clear g9 hA O4 mM jc;go_wp2_with (refine ak rfl aT _ _ rfl _ _ rfl rfl (aA bw (cs:=aC .ok nS nS nS nS nS) RS rfl rfl (aD ⟨⟨none,0,0,rfl⟩,⟨none,0,0,rfl⟩,⟨none,0,0,rfl⟩,⟨none,0,0,rfl⟩,⟨none,0,0,rfl⟩⟩)) ?_)
 obtain⟨z0,z1,z2,z3,z4,z5,z6,z7,z8,z9⟩:=bj (aj (cs:=aC .ok nS nS nS nS nS) RS.out);have HE:=zI (bN.fin (r:=(r.1,.ok)) YA RS HP.1 S9 (ej.ok w9 0 0 false 0));generalize World.setRow w9 (w.heap.size+1) (aC .ok nS nS nS nS nS)=wz at *;go_wp2;refine bodyPost_ret (v:=.agg (aC .ok nS nS nS nS nS)) (by simp[results,results88,go_sem,z0,z1,z2,z3,z4,z5,z6,z7,z8,z9,aC]) rfl ?_
 rw[HD.out];exact HE.out
end
end Go.Proofs.YtgafcelloiagmaaGreatDoor
