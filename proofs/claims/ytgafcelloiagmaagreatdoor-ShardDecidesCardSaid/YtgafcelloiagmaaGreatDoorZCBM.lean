/- A text of this proof. -/
import Derived.Test.YtgafcelloiagmaaGreatDoorZCBG
import Derived.Test.YtgafcelloiagmaaGreatDoorZCBK
set_option maxHeartbeats 16000000
set_option linter.unusedSimpArgs false
set_option linter.unusedVariables false
set_option maxRecDepth 20000
namespace Go.Proofs.YtgafcelloiagmaaGreatDoor
open Go.Proofs.Tryz
open Go.RowKit Pm
structure QN{α:Type}(T:TypeId)(enc:α->List Value)(k:Nat)(w:World)(l:List α)(v':Value)(w':World):Prop where
 own:dT T enc k w.heap.size w' v' l
 fp:Fp ab w w'
theorem Af(w:World)(a:Addr)(n c:Nat):(binOp .eql o8 (.slice (some a) n c) (.slice none 0 0)).run prog w=.ok (.bool false) w:=
 Lib.run_eql_slice_nil w o8 sl (some a) n c 0 0 Tryz.underlying44
theorem GQ(v:Value)(l:List (Nat×Pt))(w:World)(hv:Sg mf 8 w v l)(h5:l.length<=100000):
  Calls prog 128 #[v] w λe w'=>∃v',e=.returned v'/\QN sl mf 8 w l v' w':=by
 obtain⟨ao,cap,rfl,h3⟩:=hv.ex;cases ao with
 |none=>
  obtain rfl:l=[]:=by
   rcases h3 with h|⟨_,_,h,_⟩
   ·exact h
   cases h
  have fW:∀w:World,(binOp .eql o8 (.slice none 0 cap) (.slice none 0 0)).run prog w=.ok (.bool true) w:=λw=>Lib.run_eql_slice_nil w o8 sl none 0 cap 0 0 Tryz.underlying44
  clear h3 hv h5;simp only[List.length_nil]
  go_enter func128,ntmps128
  go_wp2;go_ret;exact⟨_,rfl,dT.nil _ _,Fp.refl _ _⟩
 |some a=>?_
 have aL:dT sl mf 8 w.heap.size (w.alloc (.cells #[] sl)) (.slice (some ⟨w.heap.size,0,none⟩) 0 0) []:=World.ownsRow_lit w #[] 0 (Nat.le_refl _) (by unfold maxLen;omega) rfl
 have hx:∀i (h:i<l.length) j u,(mf l[i])[j]?=some u->(w.alloc (.cells #[] sl)).cell? (a.add (i*8+j))=some u:=λi hi j u hu=>by
  rcases h3 with h|⟨g,o,e,hc⟩
  ·subst h;simp at hi
  injection e with e;subst e
  have:=((hc i hi).keep ((Fp.refl ab w).alloc (.cells #[] sl)) id).get j u hu;rw[Addr.add_lit,<-Nat.add_assoc];exact this
 have bM:∀ty,∃v' w',(Builtin.append_ #[o8,o8] ty #[.slice (some ⟨w.heap.size,0,none⟩) 0 0,.slice (some a) l.length cap]).run prog (w.alloc (.cells #[] sl))=.ok v' w'/\QN sl mf 8 w l v' w':=λty=>by
  obtain⟨v',w',hr,ho,hg,_⟩:=j5 (enc:=mf) pL Cp (SL:=o8) (T:=sl) Tryz.underlying44 Tryz.GI rfl (by decide) (by decide) (w.alloc (.cells #[] sl)) w.heap.size _ [] l ty a l.length cap aL rfl hx (by simp;omega) (by simp)
  exact⟨v',w',hr,ho,((Fp.refl ab w).alloc _).grown hg (λk hk=>.inr (by simp[Value.ownBlock]at hk;omega))⟩
 have fW:=Af;have uS:=zI (bM o8);clear bM aL hx hv h3 h5;generalize l.length=n at *;go_enter func128,ntmps128
 go_wp2_with (at_builtin;go_must (refine aG rfl _ _ _ _ rfl _ _ rfl rfl (QN sl mf 8 w l) uS.out ?_))
 intro u w2 hR;have HR:=zI hR;clear hR;go_wp2;go_ret;exact⟨_,rfl,HR.out⟩
theorem Ag(w:World)(a:Addr)(n c:Nat):(binOp .eql EF (.slice (some a) n c) (.slice none 0 0)).run prog w=.ok (.bool false) w:=
 Lib.run_eql_slice_nil w EF TR (some a) n c 0 0 Tryz.underlying37
theorem GR(v:Value)(l:List Rw)(w:World)(hv:Sg wX 5 w v l)(h5:l.length<=100000):
  Calls prog 96 #[v] w λe w'=>∃v',e=.returned v'/\QN TR wX 5 w l v' w':=by
 obtain⟨ao,cap,rfl,h3⟩:=hv.ex;cases ao with
 |none=>
  obtain rfl:l=[]:=by
   rcases h3 with h|⟨_,_,h,_⟩
   ·exact h
   cases h
  have fW:∀w:World,(binOp .eql EF (.slice none 0 cap) (.slice none 0 0)).run prog w=.ok (.bool true) w:=λw=>Lib.run_eql_slice_nil w EF TR none 0 cap 0 0 Tryz.underlying37
  clear h3 hv h5;simp only[List.length_nil]
  go_enter func96,ntmps96
  go_wp2;go_ret;exact⟨_,rfl,dT.nil _ _,Fp.refl _ _⟩
 |some a=>?_
 have aL:dT TR wX 5 w.heap.size (w.alloc (.cells #[] TR)) (.slice (some ⟨w.heap.size,0,none⟩) 0 0) []:=World.ownsRow_lit w #[] 0 (Nat.le_refl _) (by unfold maxLen;omega) rfl
 have hx:∀i (h:i<l.length) j u,(wX l[i])[j]?=some u->(w.alloc (.cells #[] TR)).cell? (a.add (i*5+j))=some u:=λi hi j u hu=>by
  rcases h3 with h|⟨g,o,e,hc⟩
  ·subst h;simp at hi
  injection e with e;subst e
  have:=((hc i hi).keep ((Fp.refl ab w).alloc (.cells #[] TR)) id).get j u hu;rw[Addr.add_lit,<-Nat.add_assoc];exact this
 have bM:∀ty,∃v' w',(Builtin.append_ #[EF,EF] ty #[.slice (some ⟨w.heap.size,0,none⟩) 0 0,.slice (some a) l.length cap]).run prog (w.alloc (.cells #[] TR))=.ok v' w'/\QN TR wX 5 w l v' w':=λty=>by
  obtain⟨v',w',hr,ho,hg,_⟩:=j5 (enc:=wX) gZ BV (SL:=EF) (T:=TR) Tryz.underlying37 Tryz.MJ rfl (by decide) (by decide) (w.alloc (.cells #[] TR)) w.heap.size _ [] l ty a l.length cap aL rfl hx (by simp;omega) (by simp)
  exact⟨v',w',hr,ho,((Fp.refl ab w).alloc _).grown hg (λk hk=>.inr (by simp[Value.ownBlock]at hk;omega))⟩
 have fW:=Ag;have uS:=zI (bM EF);clear bM aL hx hv h3 h5;generalize l.length=n at *;go_enter func96,ntmps96
 go_wp2_with (at_builtin;go_must (refine aG rfl _ _ _ _ rfl _ _ rfl rfl (QN TR wX 5 w l) uS.out ?_))
 intro u w2 hR;have HR:=zI hR;clear hR;go_wp2;go_ret;exact⟨_,rfl,HR.out⟩
structure XM(wc:World)(f:Value)(q:Nd->Bool):Prop where
 ex:∃k fi cap,f=.func (.func k) fi cap/\Enters prog k/\∀x:Nd,∀w1,x.path.length<=1000000->Fp ab wc w1->
  Calls prog k (fi++#[.agg #[.string (B x.path),.string (B x.data),.int .i64 x.aX,.int .i64 x.turn,.int .i64 x.own]]++cap) w1 λe w2=>e=.returned (.bool (q x))/\Fp ab w1 w2
structure VA(l:List Nd)(q:Nd->Bool)(w:World)(k:Nat)(u1 u2:Value)(wr:World):Prop where
 fp:Fp ab w wr
 o1:Ow w.heap.size wr u1 ((l.take k).filter q)
 o2:Ow w.heap.size wr u2 ((l.take k).filter (λx=>!q x))
 ne:∀j,u1.ownBlock=some j->u2.ownBlock=some j->False
structure XN(l:List Nd)(q:Nd->Bool)(w:World)(e:Ending)(w':World):Prop where
 ex:∃v1 v2,e=.returned (.tuple #[v1,v2])/\Ns w' v1 (l.filter q)/\Ns w' v2 (l.filter (λx=>!q x))
 fp:Fp ab w w'
theorem SP(v f:Value)(l:List Nd)(q:Nd->Bool)(w:World)(hv:Ns w v l)(hs:∀x∈l,x.path.length<=1000000)(hq:XM w f q)(hn:l.length<=40000):
  Calls prog 188 #[v,f] w λe w'=>XN l q w e w':=by
 obtain⟨ao,cap,rfl⟩:=hv.shape;obtain⟨n,aR⟩:∃n,n=l.length:=⟨_,rfl⟩;obtain⟨kf,fi,fc,rfl,gU,bB⟩:=hq.ex;have HX:=zI (yI aR (yI hv (yI hs bB)));rw[<-aR];have jS:n<=40000:=by omega
 have H0:Hid (VA l q w 0 nS nS w):=⟨Fp.refl _ _,Ow.nil _ _,Ow.nil _ _,λj h=>by cases h⟩
 clear hv hs hq bB hn aR;go_enter func188,ntmps188
 go_wp2_with fail
 go_loopw [6,7,12] (λu1 u2 i wr=>∃k:Nat,k<=n/\i=.int .i64 k/\Hid (VA l q w k u1 u2 wr)) (λ_ _ i _=>n-(RowKit.intOf i).toNat)
 case atStart=>exact⟨0,Nat.zero_le _,rfl,H0⟩
 clear H0;obtain⟨k,hk,rfl,hR⟩:=hrel;rename_i wr _
 by_cases ay:k<n
 ·have aS:k<l.length:=by rw[<-HX.1];exact ay
  obtain⟨g,o,aY,e,_,_,_,aq⟩:=HX.2.1.at (by omega)
  rw[<-HX.1]at e;injection e with e1 e2 e3
  subst e1 e3;have aE:=(aq k aS).keep hR.fp id;have nK:l.take (k+1)=l.take k++[l[k]]:=List.take_succ_eq_append_getElem aS;have dy:=λW f=>HX.2.2.2 l[k] W (HX.2.2.1 _ (List.getElem_mem aS)) f
  have rO:((l.take k).filter q).length<=50000:=Nat.le_trans (List.length_filter_le _ _) (by rw[List.length_take];omega)
  have lu:((l.take k).filter (λx=>!q x)).length<=50000:=Nat.le_trans (List.length_filter_le _ _) (by rw[List.length_take];omega)
  obtain⟨x,hx⟩:∃x,x=l[k]:=⟨_,rfl⟩;rw[<-hx]at aE nK dy;have c0:=aE.c0;have c1:=aE.c1;have c2:=aE.c2;have c3:=aE.c3;have c4:=aE.c4;unfold au at c0 c1;have q3:((k:Int)<(n:Int))=True:=eq_true (by omega)
  have q4:(k<n)=True:=eq_true ay;obtain⟨b,hb⟩:∃b,q x=b:=⟨_,rfl⟩;rw[hb]at dy;have fB:=heap_alloc_new wr (.cells #[.string (B x.path),.string (B x.data),.int .i64 x.aX,.int .i64 x.turn,.int .i64 x.own] TN);have f1:=aa wr (.cells #[.string (B x.path),.string (B x.data),.int .i64 x.aX,.int .i64 x.turn,.int .i64 x.own] TN);have HB:=zI (yI f1 fB);have HC:=zI dy;have HL:=zI (yI ay (yI nK (yI hb (yI rO lu))));clear aE aq dy ay nK hb hx aS f1 fB rO lu;go_wp2_with fail
  rw[gU _ _];go_wp2_with fail
  refine(HC _ (hR.fp.then HB.1)).mono ?_;rintro e w1⟨rfl,hf⟩;have b1:=hf.heap HB.2 id;have d0:w1.cell? ⟨wr.heap.size,0,none⟩=some (.string (B x.path)):=by rw[cell_of_row _ _ _ _ _ _ b1];rfl
  have d1:w1.cell? ⟨wr.heap.size,1,none⟩=some (.string (B x.data)):=by rw[cell_of_row _ _ _ _ _ _ b1];rfl
  have d2:w1.cell? ⟨wr.heap.size,2,none⟩=some (.int .i64 x.aX):=by rw[cell_of_row _ _ _ _ _ _ b1];rfl
  have d3:w1.cell? ⟨wr.heap.size,3,none⟩=some (.int .i64 x.turn):=by rw[cell_of_row _ _ _ _ _ _ b1];rfl
  have d4:w1.cell? ⟨wr.heap.size,4,none⟩=some (.int .i64 x.own):=by rw[cell_of_row _ _ _ _ _ _ b1];rfl
  have hF:=HB.1.then hf;have HA:=zI (yI hF (yI (hR.o1.af hF) (yI (hR.o2.af hF) (show w.heap.size<=w1.heap.size from Nat.le_trans hR.fp.size hF.size))));clear hf b1 hF;cases b with
  |true=>
   have bM:=λty=>GK w1 w.heap.size u6 _ x ty HA.2.1 HL.2.2.2.1 HA.2.2.2
   have HP:=zI bM;clear bM;go_wp2_with (at_builtin;go_must (refine aG rfl _ _ _ _ rfl _ _ rfl rfl (Jw w.heap.size (w1.alloc (.cells #[.string (B x.path),.string (B x.data),.int .i64 x.aX,.int .i64 x.turn,.int .i64 x.own] TN)) u6 ((l.take k).filter q++[x])) (HP TL) ?_))
   intro v2 w2 cN
   have hN:Hid (VA l q w (k+1) v2 u7 w2):=by
    have cv:[x].filter q=[x]:=by simp[HL.2.2.1]
    have bY:[x].filter (λx=>!q x)=[]:=by simp[HL.2.2.1]
    have fa:=aa w1 (.cells #[.string (B x.path),.string (B x.data),.int .i64 x.aX,.int .i64 x.turn,.int .i64 x.own] TN);refine⟨((hR.fp.then HA.1).then fa).trans cN.fp (λj hj=>.inr (hR.o1.lt j hj).1),?_,?_,?_⟩
    ·rw[HL.2.1,List.filter_append,cv];exact cN.own
    ·rw[HL.2.1,List.filter_append,bY,List.append_nil];exact(HA.2.2.1.af fa).keep cN.fp (λj hj hS=>hR.ne j hS hj)
    intro j h1 h2;rcases cN.new j h1 with h|h
    ·exact hR.ne j h h2
    have h3:=(HA.2.2.1.lt j h2).2;have h4:=fa.size;omega
   have eJ:=HL.1;clear cN;go_wp2;go_roundw
   case rel=>exact⟨k+1,by omega,by go_num,hN⟩
   case measure=>simp[RowKit.intOf];omega
  |false=>?_
  have bM:=λty=>GK w1 w.heap.size u7 _ x ty HA.2.2.1 HL.2.2.2.2 HA.2.2.2
  have HP:=zI bM;clear bM;go_wp2_with (at_builtin;go_must (refine aG rfl _ _ _ _ rfl _ _ rfl rfl (Jw w.heap.size (w1.alloc (.cells #[.string (B x.path),.string (B x.data),.int .i64 x.aX,.int .i64 x.turn,.int .i64 x.own] TN)) u7 ((l.take k).filter (λx=>!q x)++[x])) (HP TL) ?_))
  intro v2 w2 cN
  have hN:Hid (VA l q w (k+1) u6 v2 w2):=by
   have cv:[x].filter q=[]:=by simp[HL.2.2.1]
   have bY:[x].filter (λx=>!q x)=[x]:=by simp[HL.2.2.1]
   have fa:=aa w1 (.cells #[.string (B x.path),.string (B x.data),.int .i64 x.aX,.int .i64 x.turn,.int .i64 x.own] TN);refine⟨((hR.fp.then HA.1).then fa).trans cN.fp (λj hj=>.inr (hR.o2.lt j hj).1),?_,?_,?_⟩
   ·rw[HL.2.1,List.filter_append,cv,List.append_nil];exact(HA.2.1.af fa).keep cN.fp (λj hj hS=>hR.ne j hj hS)
   ·rw[HL.2.1,List.filter_append,bY];exact cN.own
   intro j h1 h2;rcases cN.new j h2 with h|h
   ·exact hR.ne j h1 h
   have h3:=(HA.2.1.lt j h1).2;have h4:=fa.size;omega
  have eJ:=HL.1;clear cN;go_wp2;go_roundw
  case rel=>exact⟨k+1,by omega,by go_num,hN⟩
  case measure=>simp[RowKit.intOf];omega
 have cV:k=n:=by omega
 subst cV;have q3:((k:Int)<(k:Int))=False:=eq_false (by omega)
 have nK:l.take k=l:=List.take_of_length_le (by have:=HX.1;omega)
 have h1:=hR.o1;have h2:=hR.o2;rw[nK]at h1 h2;have HN:=zI (yI h1.ns h2.ns);clear ay hk h1 h2 nK;go_wp2;go_ret2
 exact⟨⟨_,_,rfl,HN.1,HN.2⟩,hR.fp⟩
structure XO(wc:World)(f:Value)(q:Tu->Bool):Prop where
 ex:∃k fi cap,f=.func (.func k) fi cap/\Enters prog k/\∀x:Tu,∀w1,x.dir.length<=1000000->Fp ab wc w1->
  Calls prog k (fi++#[.agg #[.string (B x.dir),.int .i64 x.next]]++cap) w1 λe w2=>e=.returned (.bool (q x))/\Fp ab w1 w2
structure VB(l:List Tu)(q:Tu->Bool)(w:World)(k:Nat)(u1 u2:Value)(wr:World):Prop where
 fp:Fp ab w wr
 o1:ey w.heap.size wr u1 ((l.take k).filter q)
 o2:ey w.heap.size wr u2 ((l.take k).filter (λx=>!q x))
 ne:∀j,u1.ownBlock=some j->u2.ownBlock=some j->False
structure XP(l:List Tu)(q:Tu->Bool)(w:World)(e:Ending)(w':World):Prop where
 ex:∃v1 v2,e=.returned (.tuple #[v1,v2])/\Ts w' v1 (l.filter q)/\Ts w' v2 (l.filter (λx=>!q x))
 fp:Fp ab w w'
theorem SQ(v f:Value)(l:List Tu)(q:Tu->Bool)(w:World)(hv:Ts w v l)(hs:∀x∈l,x.dir.length<=1000000)(hq:XO w f q)(hn:l.length<=40000):
  Calls prog 191 #[v,f] w λe w'=>XP l q w e w':=by
 obtain⟨ao,cap,rfl⟩:=hv.shape;obtain⟨n,aR⟩:∃n,n=l.length:=⟨_,rfl⟩;obtain⟨kf,fi,fc,rfl,gU,bB⟩:=hq.ex;have HX:=zI (yI aR (yI hv (yI hs bB)));rw[<-aR];have jS:n<=40000:=by omega
 have H0:Hid (VB l q w 0 nS nS w):=⟨Fp.refl _ _,ey.nil _ _,ey.nil _ _,λj h=>by cases h⟩
 clear hv hs hq bB hn aR;go_enter func191,ntmps191
 go_wp2_with fail
 go_loopw [6,7,12] (λu1 u2 i wr=>∃k:Nat,k<=n/\i=.int .i64 k/\Hid (VB l q w k u1 u2 wr)) (λ_ _ i _=>n-(RowKit.intOf i).toNat)
 case atStart=>exact⟨0,Nat.zero_le _,rfl,H0⟩
 clear H0;obtain⟨k,hk,rfl,hR⟩:=hrel;rename_i wr _
 by_cases ay:k<n
 ·have aS:k<l.length:=by rw[<-HX.1];exact ay
  obtain⟨g,o,aY,e,_,_,_,aq⟩:=HX.2.1.at (by omega)
  rw[<-HX.1]at e;injection e with e1 e2 e3
  subst e1 e3;have aE:=(aq k aS).keep hR.fp id;have nK:l.take (k+1)=l.take k++[l[k]]:=List.take_succ_eq_append_getElem aS;have dy:=λW f=>HX.2.2.2 l[k] W (HX.2.2.1 _ (List.getElem_mem aS)) f
  have rO:((l.take k).filter q).length<=50000:=Nat.le_trans (List.length_filter_le _ _) (by rw[List.length_take];omega)
  have lu:((l.take k).filter (λx=>!q x)).length<=50000:=Nat.le_trans (List.length_filter_le _ _) (by rw[List.length_take];omega)
  obtain⟨x,hx⟩:∃x,x=l[k]:=⟨_,rfl⟩;rw[<-hx]at aE nK dy;have c0:=aE.c0;have c1:=aE.c1;unfold au at c0;have q3:((k:Int)<(n:Int))=True:=eq_true (by omega)
  have q4:(k<n)=True:=eq_true ay;obtain⟨b,hb⟩:∃b,q x=b:=⟨_,rfl⟩;rw[hb]at dy;have fB:=heap_alloc_new wr (.cells #[.string (B x.dir),.int .i64 x.next] TU);have f1:=aa wr (.cells #[.string (B x.dir),.int .i64 x.next] TU);have HB:=zI (yI f1 fB);have HC:=zI dy;have HL:=zI (yI ay (yI nK (yI hb (yI rO lu))));clear aE aq dy ay nK hb hx aS f1 fB rO lu;go_wp2_with fail
  rw[gU _ _];go_wp2_with fail
  refine(HC _ (hR.fp.then HB.1)).mono ?_;rintro e w1⟨rfl,hf⟩;have b1:=hf.heap HB.2 id;have d0:w1.cell? ⟨wr.heap.size,0,none⟩=some (.string (B x.dir)):=by rw[cell_of_row _ _ _ _ _ _ b1];rfl
  have d1:w1.cell? ⟨wr.heap.size,1,none⟩=some (.int .i64 x.next):=by rw[cell_of_row _ _ _ _ _ _ b1];rfl
  have hF:=HB.1.then hf;have HA:=zI (yI hF (yI (hR.o1.af hF) (yI (hR.o2.af hF) (show w.heap.size<=w1.heap.size from Nat.le_trans hR.fp.size hF.size))));clear hf b1 hF;cases b with
  |true=>
   have bM:=λty=>GL w1 w.heap.size u6 _ x ty HA.2.1 HL.2.2.2.1 HA.2.2.2
   have HP:=zI bM;clear bM;go_wp2_with (at_builtin;go_must (refine aG rfl _ _ _ _ rfl _ _ rfl rfl (o9 w.heap.size (w1.alloc (.cells #[.string (B x.dir),.int .i64 x.next] TU)) u6 ((l.take k).filter q++[x])) (HP eM) ?_))
   intro v2 w2 cN
   have hN:Hid (VB l q w (k+1) v2 u7 w2):=by
    have cv:[x].filter q=[x]:=by simp[HL.2.2.1]
    have bY:[x].filter (λx=>!q x)=[]:=by simp[HL.2.2.1]
    have fa:=aa w1 (.cells #[.string (B x.dir),.int .i64 x.next] TU);refine⟨((hR.fp.then HA.1).then fa).trans cN.fp (λj hj=>.inr (hR.o1.lt j hj).1),?_,?_,?_⟩
    ·rw[HL.2.1,List.filter_append,cv];exact cN.own
    ·rw[HL.2.1,List.filter_append,bY,List.append_nil];exact(HA.2.2.1.af fa).keep cN.fp (λj hj hS=>hR.ne j hS hj)
    intro j h1 h2;rcases cN.new j h1 with h|h
    ·exact hR.ne j h h2
    have h3:=(HA.2.2.1.lt j h2).2;have h4:=fa.size;omega
   have eJ:=HL.1;clear cN;go_wp2;go_roundw
   case rel=>exact⟨k+1,by omega,by go_num,hN⟩
   case measure=>simp[RowKit.intOf];omega
  |false=>?_
  have bM:=λty=>GL w1 w.heap.size u7 _ x ty HA.2.2.1 HL.2.2.2.2 HA.2.2.2
  have HP:=zI bM;clear bM;go_wp2_with (at_builtin;go_must (refine aG rfl _ _ _ _ rfl _ _ rfl rfl (o9 w.heap.size (w1.alloc (.cells #[.string (B x.dir),.int .i64 x.next] TU)) u7 ((l.take k).filter (λx=>!q x)++[x])) (HP eM) ?_))
  intro v2 w2 cN
  have hN:Hid (VB l q w (k+1) u6 v2 w2):=by
   have cv:[x].filter q=[]:=by simp[HL.2.2.1]
   have bY:[x].filter (λx=>!q x)=[x]:=by simp[HL.2.2.1]
   have fa:=aa w1 (.cells #[.string (B x.dir),.int .i64 x.next] TU);refine⟨((hR.fp.then HA.1).then fa).trans cN.fp (λj hj=>.inr (hR.o2.lt j hj).1),?_,?_,?_⟩
   ·rw[HL.2.1,List.filter_append,cv,List.append_nil];exact(HA.2.1.af fa).keep cN.fp (λj hj hS=>hR.ne j hj hS)
   ·rw[HL.2.1,List.filter_append,bY];exact cN.own
   intro j h1 h2;rcases cN.new j h2 with h|h
   ·exact hR.ne j h1 h
   have h3:=(HA.2.1.lt j h1).2;have h4:=fa.size;omega
  have eJ:=HL.1;clear cN;go_wp2;go_roundw
  case rel=>exact⟨k+1,by omega,by go_num,hN⟩
  case measure=>simp[RowKit.intOf];omega
 have cV:k=n:=by omega
 subst cV;have q3:((k:Int)<(k:Int))=False:=eq_false (by omega)
 have nK:l.take k=l:=List.take_of_length_le (by have:=HX.1;omega)
 have h1:=hR.o1;have h2:=hR.o2;rw[nK]at h1 h2;have HN:=zI (yI h1.ns h2.ns);clear ay hk h1 h2 nK;go_wp2;go_ret2
 exact⟨⟨_,_,rfl,HN.1,HN.2⟩,hR.fp⟩
end Go.Proofs.YtgafcelloiagmaaGreatDoor
