/- A text of this proof. -/
import Derived.Test.YtgafcelloiagmaaGreatDoorZCK
import Derived.Test.YtgafcelloiagmaaGreatDoorZCM
set_option maxHeartbeats 16000000
set_option linter.unusedSimpArgs false
set_option linter.unusedVariables false
set_option maxRecDepth 20000
namespace Go.Proofs.YtgafcelloiagmaaGreatDoor
open Go.Proofs.Tryz
section
open Go.RowKit Pm
structure tf(w:World)(v:Value)(s:St):Prop where
 ex:∃vn vt,v=.agg #[vn,vt]/\Ns w vn s.nodes/\Ts w vt s.turns
theorem tf.af{w w':World}{v:Value}{s:St}(h:tf w v s)(f:Fp ab w w'):tf w' v s:=by
 obtain⟨vn,vt,e,h1,h2⟩:=h.ex;exact⟨vn,vt,e,h1.af f,h2.af f⟩
theorem bxN(wr:World)(x:Nd):dM (wr.alloc (Obj.cells #[.string (B x.path),.string (B x.data),.int .i64 x.aX,.int .i64 x.turn,.int .i64 x.own] TN)).drew wr.heap.size 0 x:=by
 have h:=heap_alloc_new wr (Obj.cells #[.string (B x.path),.string (B x.data),.int .i64 x.aX,.int .i64 x.turn,.int .i64 x.own] TN);have hb:dM (wr.alloc (Obj.cells #[.string (B x.path),.string (B x.data),.int .i64 x.aX,.int .i64 x.turn,.int .i64 x.own] TN)) wr.heap.size 0 x:=⟨by rw[cell_of_row _ _ _ _ _ _ h];rfl,by rw[cell_of_row _ _ _ _ _ _ h];rfl,by rw[cell_of_row _ _ _ _ _ _ h];rfl,by rw[cell_of_row _ _ _ _ _ _ h];rfl,by rw[cell_of_row _ _ _ _ _ _ h];rfl⟩
 exact hb.keep ((Fp.refl ab _).drew) id
theorem BJ{a z:Bs}(h:(Op.bytesLess a z||a == z)=true):lt z a=false:=by
 simp only[Bool.or_eq_true,beq_iff_eq]at h
 rcases h with h|rfl
 ·exact lt_asymm h
 exact lt_irrefl _
theorem JV{a z:Bs}(h:(Op.bytesLess a z||a == z)=false):lt z a=true:=by
 simp only[Bool.or_eq_false_iff,beq_eq_false_iff_ne]at h
 exact lr h.1 h.2
def I1(l:List Nd)(j:Nat)(hj:j<l.length):Prop:=sJ l[j]=true/\(0<j->∀h:j-1<l.length,lt l[j-1].path l[j].path=true)
theorem Bt{s:St}(h:dh s):∀j (hj:j<s.nodes.length),I1 s.nodes j hj:=λj hj=>
 ⟨h.fit _ (List.getElem_mem hj),λh0 h1=>h.kR (j-1) j h1 hj (by omega)⟩
def I2(l:List Tu)(j:Nat)(hj:j<l.length):Prop:=fe l[j]=true/\(0<j->∀h:j-1<l.length,lt l[j-1].dir l[j].dir=true)
theorem Bu{s:St}(h:dh s):∀j (hj:j<s.turns.length),I2 s.turns j hj:=λj hj=>
 ⟨h.fe _ (List.getElem_mem hj),λh0 h1=>h.oU (j-1) j h1 hj (by omega)⟩
theorem I3{l:List Tu}(h:∀j (hj:j<l.length),I2 l j hj):(∀t∈l,fe t=true)/\jO l:=
 ⟨λn hn=>by obtain⟨i,hi,rfl⟩:=List.getElem_of_mem hn;exact(h i hi).1,iU.2 (AL λi hi=>by
  rw[List.length_map]at hi;have:=(h (i+1) hi).2 (by omega) (by omega)
  simp only[List.getElem_map]
  show lt l[i].dir l[i+1].dir=true
  simpa using this)⟩
theorem bxT(wr:World)(x:Tu):jL (wr.alloc (Obj.cells #[.string (B x.dir),.int .i64 x.next] TU)).drew wr.heap.size 0 x:=by
 have h:=heap_alloc_new wr (Obj.cells #[.string (B x.dir),.int .i64 x.next] TU);have hb:jL (wr.alloc (Obj.cells #[.string (B x.dir),.int .i64 x.next] TU)) wr.heap.size 0 x:=⟨by rw[cell_of_row _ _ _ _ _ _ h];rfl,by rw[cell_of_row _ _ _ _ _ _ h];rfl⟩
 exact hb.keep ((Fp.refl ab _).drew) id
theorem I4{l:List Nd}(h:∀j (hj:j<l.length),I1 l j hj):(∀n∈l,sJ n=true)/\fw l:=
 ⟨λn hn=>by obtain⟨i,hi,rfl⟩:=List.getElem_of_mem hn;exact(h i hi).1,AL λi hi=>by have:=(h (i+1) hi).2 (by omega) (by omega);simpa using this⟩
theorem j4(v:Value)(s:St)(w:World)(hv:tf w v s)(hs:Sp s.nodes)(hn:s.nodes.length<=1000000)(aN:∀t∈s.turns,t.dir.length<=1000000)(jE:s.turns.length<=1000000):
  Calls prog 41 #[v] w λe w'=>e=.returned (.bool (dB s))/\Fp ab w w':=by
 obtain⟨vn,vt,rfl,h1,h2⟩:=hv.ex;obtain⟨ao,cap,rfl⟩:=h1.shape;obtain⟨at',lV,rfl⟩:=h2.shape;obtain⟨n,aR⟩:∃n,n=s.nodes.length:=⟨_,rfl⟩;obtain⟨m,hm⟩:∃m,m=s.turns.length:=⟨_,rfl⟩;obtain⟨r,hr⟩:∃r,dB s=r:=⟨_,rfl⟩;have Fu:=zI (show ∀k (hk:k<s.nodes.length),¬I1 s.nodes k hk->r=false from λk hk h=>by rw[<-hr];exact mT (λc=>h (Bt c k hk)))
 have HX:=zI (yI aR (yI h1 hs));have HT:=zI (yI hm (yI h2 (yI aN hr)));have GH:m<=1000000:=by omega
 rw[hr,<-aR,<-hm];have zn:=zI (show(w.alloc (Obj.cells #[.slice ao n cap,.slice at' m lV] 25)).cell? ⟨w.heap.size,0,none⟩=some (.slice ao n cap)/\(w.alloc (Obj.cells #[.slice ao n cap,.slice at' m lV] 25)).cell? ⟨w.heap.size,1,none⟩=some (.slice at' m lV) from⟨by rw[cell_of_row _ _ _ _ _ _ (heap_alloc_new w _)];rfl,by rw[cell_of_row _ _ _ _ _ _ (heap_alloc_new w _)];rfl⟩)
 have dr:=zI (aa w (Obj.cells #[.slice ao n cap,.slice at' m lV] 25));have jS:n<=1000000:=by omega
 clear h1 h2 hv hs hn aR hm hr aN jE;go_enter func41,ntmps41
 go_wp2_with fail
 obtain⟨W0,dw⟩:∃W0,W0=w.alloc (Obj.cells #[.slice ao n cap,.slice at' m lV] 25):=⟨_,rfl⟩;rw[<-dw]at zn dr|-;clear dw;go_loopw [10] (λi wr=>∃k:Nat,k<=n/\i=.int .i64 k/\Hid (Fp ab W0 wr/\∀j (hj:j<s.nodes.length),j<k->I1 s.nodes j hj)) (λi _=>n-(RowKit.intOf i).toNat)
 case atStart=>exact⟨0,Nat.zero_le _,rfl,Fp.refl _ _,λj _ h=>absurd h (Nat.not_lt_zero j)⟩
 obtain⟨k,hk,rfl,hR⟩:=hrel;rename_i wr _
 by_cases ay:k<n
 ·have aS:k<s.nodes.length:=by rw[<-HX.1];exact ay
  obtain⟨g,o,aY,e,_,_,_,aq⟩:=HX.2.1.at (by omega)
  injection e with e1 e2 e3
  subst e1 e3;have f0:=dr.then hR.1;have aE:=(aq k aS).keep f0 id;obtain⟨x,hx⟩:∃x,x=s.nodes[k]:=⟨_,rfl⟩;rw[<-hx]at aE;have c0:=aE.c0;have c1:=aE.c1;have c2:=aE.c2;have c3:=aE.c3;have c4:=aE.c4;unfold au at c0 c1;have q3:((k:Int)<(n:Int))=True:=eq_true (by omega)
  have q4:(k<n)=True:=eq_true ay;have zw:x.path.length<=1000000:=HX.2.2 x (by rw[hx];exact List.getElem_mem aS)
  have JT:=λw=>LX x w zw
  unfold vO au at JT;have zx:=bxN wr x;have HB:=zI (yI (((Fp.refl ab wr).alloc (Obj.cells #[.string (B x.path),.string (B x.data),.int .i64 x.aX,.int .i64 x.turn,.int .i64 x.own] TN)).drew) zx);have HW:=zI (f0);have MY:=zI hR.1;have HK:=zI ay;have aN:(wr.alloc (Obj.cells #[.string (B x.path),.string (B x.data),.int .i64 x.aX,.int .i64 x.turn,.int .i64 x.own] TN)).drew.cell? ⟨w.heap.size,0,none⟩=some (.slice (some ⟨g,o,none⟩) n cap):=HB.1.cell (hR.1.cell zn.1 id) id;have dP:∀k',k'<s.nodes.length->∃z,(wr.alloc (Obj.cells #[.string (B x.path),.string (B x.data),.int .i64 x.aX,.int .i64 x.turn,.int .i64 x.own] TN)).drew.cell? ⟨g,o+k'*5,none⟩=some (.string (B z))/\∀h:k'<s.nodes.length,z=(s.nodes[k']).path:=λk' h=>⟨_,HB.1.cell ((aq k' h).keep f0 id).c0 id,λ_=>rfl⟩
  have hold:=hR.2
  have cO:sJ x=true->(0<k->∀h:k-1<s.nodes.length,lt (s.nodes[k-1]).path x.path=true)->∀j (hj:j<s.nodes.length),j<k+1->I1 s.nodes j hj:=λa b j hj rJ=>by
   rcases Nat.lt_or_eq_of_le (show j<=k by omega) with e|e
   ·exact hold j hj e
   subst e;exact⟨by rw[<-hx];exact a,λh0 h1=>by rw[<-hx];exact b h0 h1⟩
  have cP:(sJ x=false\/(0<k/\∃h:k-1<s.nodes.length,lt (s.nodes[k-1]).path x.path=false))->r=false:=λh=>Fu k aS (λc=>by
   rcases h with h|⟨h0,h1,h2⟩
   ·have:=c.1;rw[<-hx,h]at this;cases this
   have:=c.2 h0 h1;rw[<-hx,h2]at this;cases this)
  obtain⟨fx,ux⟩:∃b,sJ x=b:=⟨_,rfl⟩;rw[ux]at JT cO cP;have JU:=zI JT;have je:=zI (yI cO (yI cP (yI aN (yI dP aS))));clear JT zx aN dP hold cO cP ux zw hx aE aq f0;cases fx with
  |false=>
   have wF:=zI (je.2.1 (.inl rfl));clear aS ay hk;go_wp2_with fail
   refine wp_region_held_drew (S:=(λw'=>w'.cell? ⟨wr.heap.size,0,none⟩=some (.string (B x.path))/\w'.cell? ⟨wr.heap.size,1,none⟩=some (.string (B x.data))/\w'.cell? ⟨wr.heap.size,2,none⟩=some (.int .i64 x.aX)/\w'.cell? ⟨wr.heap.size,3,none⟩=some (.int .i64 x.turn)/\w'.cell? ⟨wr.heap.size,4,none⟩=some (.int .i64 x.own))) (by kernel_rfl) ?_ (λhH=>?_)
   ·exact⟨HB.2.c0,HB.2.c1,HB.2.c2,HB.2.c3,HB.2.c4⟩
   refine tk 0 hH ?_;refine rY 1 λK hK=>?_
   go_simp;go_at_call 77
   refine(JU _).mono ?_;rintro e w1⟨rfl,f1⟩;have b1:=HB.2.keep f1 id;have dQ:=zI (yI b1.c0 (yI b1.c1 (yI b1.c2 (yI b1.c3 b1.c4))));have F:=zI (HB.1.then f1);clear f1 b1;go_wp2_with fail
   refine hK _ _ dQ (λhH=>?_)
   clear hK K;try simp only[zz]
   refine tk 2 hH ?_;refine tk 3 hH ?_;refine sk 4 hH ?_;refine sk 5 hH ?_;refine sk 6 hH ?_;refine sk 7 hH ?_;refine sk 8 hH ?_;refine sk 9 hH ?_;refine sk 10 hH ?_;refine sk 11 hH ?_;refine sk 12 hH ?_;refine sk 13 hH ?_;refine sk 14 hH ?_;refine sk 15 hH ?_;refine sk 16 hH ?_;refine sk 17 hH ?_;refine tk 18 hH ?_;refine yD ?_;go_wp2;go_ret;exact⟨aB wF.symm,HW.then F.out⟩
  |true=>?_
  rcases Nat.eq_zero_or_pos k with nC|nC
  ·subst nC
   simp only[Nat.zero_mul,Nat.add_zero]at c0 c1 c2 c3 c4
   have vP:=zI (je.1 rfl (λh=>absurd h (by omega)))
   clear aS ay hk;go_wp2_with fail
   refine wp_region_held_drew (S:=(λw'=>w'.cell? ⟨wr.heap.size,0,none⟩=some (.string (B x.path))/\w'.cell? ⟨wr.heap.size,1,none⟩=some (.string (B x.data))/\w'.cell? ⟨wr.heap.size,2,none⟩=some (.int .i64 x.aX)/\w'.cell? ⟨wr.heap.size,3,none⟩=some (.int .i64 x.turn)/\w'.cell? ⟨wr.heap.size,4,none⟩=some (.int .i64 x.own))) (by kernel_rfl) ?_ (λhH=>?_)
   ·exact⟨HB.2.c0,HB.2.c1,HB.2.c2,HB.2.c3,HB.2.c4⟩
   refine tk 0 hH ?_;refine rY 1 λK hK=>?_
   go_simp;go_at_call 77
   refine(JU _).mono ?_;rintro e w1⟨rfl,f1⟩;have b1:=HB.2.keep f1 id;have dQ:=zI (yI b1.c0 (yI b1.c1 (yI b1.c2 (yI b1.c3 b1.c4))));have F:=zI (HB.1.then f1);clear f1 b1;go_wp2_with fail
   refine hK _ _ dQ (λhH=>?_)
   clear hK K;try simp only[zz]
   refine tk 2 hH ?_;refine tk 3 hH ?_;refine tk 4 hH ?_;refine tk 5 hH ?_;refine tk 6 hH ?_;refine sk 7 hH ?_;refine sk 8 hH ?_;refine sk 9 hH ?_;refine sk 10 hH ?_;refine sk 11 hH ?_;refine sk 12 hH ?_;refine sk 13 hH ?_;refine sk 14 hH ?_;refine sk 15 hH ?_;refine sk 16 hH ?_;refine tk 17 hH ?_;refine tk 18 hH ?_;refine yD ?_;have eJ:=HK.out;go_wp2;go_roundw
   case rel=>exact⟨0+1,by have:=HK.out;omega,by go_num,⟨MY.then F.out,vP.out⟩⟩
   case measure=>have:=HK.out;simp[RowKit.intOf];omega
  obtain⟨z,hz,l7⟩:=je.2.2.2.1 (k-1) (by omega)
  have HP:=zI (yI je.2.2.1 hz);have MA:k-1<s.nodes.length:=by omega
  have HZ:=zI (yI (l7 MA) (yI nC MA));have wk:IntKind.i64.wrap ((k:Int)-1)=((k-1:Nat):Int):=by rw[IntKind.wrap_i64];omega
  have qz:((0:Int)<(k:Int))=True:=eq_true (by omega)
  have ZU:(0<k)=True:=eq_true nC;have qn:(((k-1:Nat):Int)<(n:Int))=True:=eq_true (by omega)
  have ZV:(k-1<n)=True:=eq_true (by omega)
  by_cases hle:(Op.bytesLess x.path z||x.path == z)=true
  ·have wF:=zI (je.2.1 (.inr ⟨HZ.2.1,HZ.2.2,by rw[<-HZ.1];exact BJ hle⟩))
   clear ay hk nC hz l7;go_wp2_with fail
   refine wp_region_held_drew (S:=(λw'=>w'.cell? ⟨wr.heap.size,0,none⟩=some (.string (B x.path))/\w'.cell? ⟨wr.heap.size,1,none⟩=some (.string (B x.data))/\w'.cell? ⟨wr.heap.size,2,none⟩=some (.int .i64 x.aX)/\w'.cell? ⟨wr.heap.size,3,none⟩=some (.int .i64 x.turn)/\w'.cell? ⟨wr.heap.size,4,none⟩=some (.int .i64 x.own)/\w'.cell? ⟨w.heap.size,0,none⟩=some (.slice (some ⟨g,o,none⟩) n cap)/\w'.cell? ⟨g,o+(k-1)*5,none⟩=some (.string (B z)))) (by kernel_rfl) ?_ (λhH=>?_)
   ·exact⟨HB.2.c0,HB.2.c1,HB.2.c2,HB.2.c3,HB.2.c4,HP.1,HP.2⟩
   refine tk 0 hH ?_;refine rY 1 λK hK=>?_
   go_simp;go_at_call 77
   refine(JU _).mono ?_;rintro e w1⟨rfl,f1⟩;have b1:=HB.2.keep f1 id;have dQ:=zI (yI b1.c0 (yI b1.c1 (yI b1.c2 (yI b1.c3 (yI b1.c4 (yI (f1.cell HP.1 id) (f1.cell HP.2 id)))))));have F:=zI (HB.1.then f1);clear f1 b1;go_wp2_with fail
   refine hK _ _ dQ (λhH=>?_)
   clear hK K;try simp only[zz]
   refine tk 2 hH ?_;refine tk 3 hH ?_;refine tk 4 hH ?_;refine tk 5 hH ?_;refine tk 6 hH ?_;refine tk 7 hH ?_;refine tk 8 hH ?_;refine tk 9 hH ?_;refine tk 10 hH ?_;refine tk 11 hH ?_;refine tk 12 hH ?_;refine tk 13 hH ?_;refine tk 14 hH ?_;refine tk 15 hH ?_;refine tk 16 hH ?_;refine tk 17 hH ?_;refine tk 18 hH ?_;refine yD ?_;go_wp2;go_ret;exact⟨aB wF.symm,HW.then F.out⟩
  have wG:(Op.bytesLess x.path z||x.path == z)=false:=by simpa using hle
  have vP:=zI (je.1 rfl (λ_ h=>by rw[<-HZ.1];exact JV wG))
  clear ay hk nC hz l7 hle;go_wp2_with fail
  refine wp_region_held_drew (S:=(λw'=>w'.cell? ⟨wr.heap.size,0,none⟩=some (.string (B x.path))/\w'.cell? ⟨wr.heap.size,1,none⟩=some (.string (B x.data))/\w'.cell? ⟨wr.heap.size,2,none⟩=some (.int .i64 x.aX)/\w'.cell? ⟨wr.heap.size,3,none⟩=some (.int .i64 x.turn)/\w'.cell? ⟨wr.heap.size,4,none⟩=some (.int .i64 x.own)/\w'.cell? ⟨w.heap.size,0,none⟩=some (.slice (some ⟨g,o,none⟩) n cap)/\w'.cell? ⟨g,o+(k-1)*5,none⟩=some (.string (B z)))) (by kernel_rfl) ?_ (λhH=>?_)
  ·exact⟨HB.2.c0,HB.2.c1,HB.2.c2,HB.2.c3,HB.2.c4,HP.1,HP.2⟩
  refine tk 0 hH ?_;refine rY 1 λK hK=>?_
  go_simp;go_at_call 77
  refine(JU _).mono ?_;rintro e w1⟨rfl,f1⟩;have b1:=HB.2.keep f1 id;have dQ:=zI (yI b1.c0 (yI b1.c1 (yI b1.c2 (yI b1.c3 (yI b1.c4 (yI (f1.cell HP.1 id) (f1.cell HP.2 id)))))));have F:=zI (HB.1.then f1);clear f1 b1;go_wp2_with fail
  refine hK _ _ dQ (λhH=>?_)
  clear hK K;try simp only[zz]
  refine tk 2 hH ?_;refine tk 3 hH ?_;refine tk 4 hH ?_;refine tk 5 hH ?_;refine tk 6 hH ?_;refine tk 7 hH ?_;refine tk 8 hH ?_;refine tk 9 hH ?_;refine tk 10 hH ?_;refine tk 11 hH ?_;refine tk 12 hH ?_;refine tk 13 hH ?_;refine tk 14 hH ?_;refine tk 15 hH ?_;refine tk 16 hH ?_;refine tk 17 hH ?_;refine tk 18 hH ?_;refine yD ?_;have eJ:=HK.out;go_wp2;go_roundw
  case rel=>exact⟨k+1,by have:=HK.out;omega,by go_num,⟨MY.then F.out,vP.out⟩⟩
  case measure=>have:=HK.out;simp[RowKit.intOf];omega
 have cV:k=n:=by omega
 subst cV;have q3:((k:Int)<(k:Int))=False:=eq_false (by omega)
 have t1:=hR.1.cell zn.2 id;clear ay hk;go_wp2_with fail
 have HN9:=zI (I4 (λj hj=>hR.2 j hj (by rw[HX.1];exact hj)))
 have Zk:=zI (show ∀i (hi:i<s.turns.length),¬I2 s.turns i hi->r=false from λi hi h=>by rw[<-HT.2.2.2];exact mT (λc=>h (Bu c i hi)))
 obtain⟨W1,jM⟩:∃W1,W1=wr:=⟨_,rfl⟩;have ef:=zI (dr.then hR.1);have T1:=zI t1;rw[<-jM]at ef T1|-;clear jM hR t1 zn;go_loopw [38] (λi oB=>∃k:Nat,k<=m/\i=.int .i64 k/\Hid (Fp ab W1 oB/\∀j (hj:j<s.turns.length),j<k->I2 s.turns j hj)) (λi _=>m-(RowKit.intOf i).toNat)
 case atStart=>exact⟨0,Nat.zero_le _,rfl,Fp.refl _ _,λj _ h=>absurd h (Nat.not_lt_zero j)⟩
 obtain⟨k,hk,rfl,hR⟩:=hrel;rename World=>oB
 by_cases ay:k<m
 ·have aS:k<s.turns.length:=by rw[<-HT.1];exact ay
  obtain⟨g,o,aY,e,_,_,_,aq⟩:=HT.2.1.at (by omega)
  injection e with e1 e2 e3
  subst e1 e3;have f0:=ef.then hR.1;have aE:=(aq k aS).keep f0 id;obtain⟨x,hx⟩:∃x,x=s.turns[k]:=⟨_,rfl⟩;rw[<-hx]at aE;have c0:=aE.c0;have c1:=aE.c1;unfold au at c0;have q3:((k:Int)<(m:Int))=True:=eq_true (by omega)
  have q4:(k<m)=True:=eq_true ay;have zw:x.dir.length<=1000000:=HT.2.2.1 x (by rw[hx];exact List.getElem_mem aS)
  have iL:=λw=>cE x.dir w (cH zw (by omega))
  have wK:=λw b h=>iX x.next 1 10000 w b h
  have zx:=bxT oB x;have HB:=zI (yI (((Fp.refl ab oB).alloc (Obj.cells #[.string (B x.dir),.int .i64 x.next] TU)).drew) zx);have HW:=zI (f0);have MY:=zI hR.1;have HK:=zI ay;have aN:(oB.alloc (Obj.cells #[.string (B x.dir),.int .i64 x.next] TU)).drew.cell? ⟨w.heap.size,1,none⟩=some (.slice (some ⟨g,o,none⟩) m lV):=HB.1.cell (hR.1.cell T1 id) id;have dP:∀k',k'<s.turns.length->∃z,(oB.alloc (Obj.cells #[.string (B x.dir),.int .i64 x.next] TU)).drew.cell? ⟨g,o+k'*2,none⟩=some (.string (B z))/\∀h:k'<s.turns.length,z=(s.turns[k']).dir:=λk' h=>⟨_,HB.1.cell ((aq k' h).keep f0 id).c0 id,λ_=>rfl⟩
  have hold:=hR.2;obtain⟨sp,fF⟩:∃b,(split x.dir).isSome=b:=⟨_,rfl⟩;obtain⟨b1,bO⟩:∃b,decide (1<=x.next/\x.next<=10000)=b:=⟨_,rfl⟩;have fX:fe x=(sp && b1):=by rw[<-fF,<-bO];rfl
  have cO:(sp && b1)=true->(0<k->∀h:k-1<s.turns.length,lt (s.turns[k-1]).dir x.dir=true)->∀j (hj:j<s.turns.length),j<k+1->I2 s.turns j hj:=λa b j hj rJ=>by
   rcases Nat.lt_or_eq_of_le (show j<=k by omega) with e|e
   ·exact hold j hj e
   subst e;exact⟨by rw[<-hx,fX];exact a,λh0 h1=>by rw[<-hx];exact b h0 h1⟩
  have cP:((sp && b1)=false\/(0<k/\∃h:k-1<s.turns.length,lt (s.turns[k-1]).dir x.dir=false))->r=false:=λh=>Zk k aS (λc=>by
   rcases h with h|⟨h0,h1,h2⟩
   ·have:=c.1;rw[<-hx,fX,h]at this;cases this
   have:=c.2 h0 h1;rw[<-hx,h2]at this;cases this)
  rw[fF]at iL;have Pf:=zI iL;have Wy:=zI (λw=>wK w b1 bO)
  have je:=zI (yI cO (yI cP (yI aN (yI dP aS))));clear iL wK zx aN dP hold cO cP fX fF bO zw hx aE aq f0;cases sp with
  |false=>
   have wF:=zI (je.2.1 (.inl rfl));clear aS ay hk;go_wp2_with fail
   refine wp_region_held_drew (S:=(λw'=>w'.cell? ⟨oB.heap.size,0,none⟩=some (.string (B x.dir))/\w'.cell? ⟨oB.heap.size,1,none⟩=some (.int .i64 x.next))) (by kernel_rfl) ?_ (λhH=>?_)
   ·exact⟨HB.2.c0,HB.2.c1⟩
   refine tk 0 hH ?_;refine tk 1 hH ?_;refine rY 2 λK hK=>?_
   go_simp;go_at_call 78
   refine(Pf _).mono ?_;rintro e w1⟨rfl,f1⟩;have b1:=HB.2.keep f1.fp id;have dQ:=zI (yI b1.c0 b1.c1);have F:=zI (HB.1.then f1.fp);clear f1 b1;go_wp2_with fail
   refine hK _ _ dQ (λhH=>?_)
   clear hK K;try simp only[zz]
   refine tk 3 hH ?_;refine tk 4 hH ?_;refine sk 5 hH ?_;refine sk 6 hH ?_;refine sk 7 hH ?_;refine sk 8 hH ?_;refine tk 9 hH ?_;refine tk 10 hH ?_;refine sk 11 hH ?_;refine sk 12 hH ?_;refine sk 13 hH ?_;refine sk 14 hH ?_;refine sk 15 hH ?_;refine sk 16 hH ?_;refine sk 17 hH ?_;refine sk 18 hH ?_;refine sk 19 hH ?_;refine sk 20 hH ?_;refine sk 21 hH ?_;refine sk 22 hH ?_;refine sk 23 hH ?_;refine sk 24 hH ?_;refine tk 25 hH ?_;refine yD ?_;go_wp2;go_ret;exact⟨aB wF.symm,HW.then F.out⟩
  |true=>?_
  cases b1 with
  |false=>
   have wF:=zI (je.2.1 (.inl rfl));clear aS ay hk;go_wp2_with fail
   refine wp_region_held_drew (S:=(λw'=>w'.cell? ⟨oB.heap.size,0,none⟩=some (.string (B x.dir))/\w'.cell? ⟨oB.heap.size,1,none⟩=some (.int .i64 x.next))) (by kernel_rfl) ?_ (λhH=>?_)
   ·exact⟨HB.2.c0,HB.2.c1⟩
   refine tk 0 hH ?_;refine tk 1 hH ?_;refine rY 2 λK hK=>?_
   go_simp;go_at_call 78
   refine(Pf _).mono ?_;rintro e w1⟨rfl,f1⟩;have b1:=HB.2.keep f1.fp id;have dQ:=zI (yI b1.c0 b1.c1);have F:=zI (HB.1.then f1.fp);clear f1 b1;go_wp2_with fail
   refine hK _ _ dQ (λhH=>?_)
   clear hK K;try simp only[zz]
   refine tk 3 hH ?_;refine tk 4 hH ?_;refine tk 5 hH ?_;refine tk 6 hH ?_;refine rY 7 λK hK=>?_
   go_simp;go_at_call 79
   refine(Wy _).mono ?_;rintro e w2⟨rfl,rfl⟩;go_wp2_with fail
   refine hK _ _ dQ (λhH=>?_)
   clear hK K;try simp only[zz]
   refine tk 8 hH ?_;refine tk 9 hH ?_;refine tk 10 hH ?_;refine sk 11 hH ?_;refine sk 12 hH ?_;refine sk 13 hH ?_;refine sk 14 hH ?_;refine sk 15 hH ?_;refine sk 16 hH ?_;refine sk 17 hH ?_;refine sk 18 hH ?_;refine sk 19 hH ?_;refine sk 20 hH ?_;refine sk 21 hH ?_;refine sk 22 hH ?_;refine sk 23 hH ?_;refine sk 24 hH ?_;refine tk 25 hH ?_;refine yD ?_;go_wp2;go_ret;exact⟨aB wF.symm,HW.then F.out⟩
  |true=>?_
  rcases Nat.eq_zero_or_pos k with nC|nC
  ·subst nC
   simp only[Nat.zero_mul,Nat.add_zero]at c0 c1
   have vP:=zI (je.1 rfl (λh=>absurd h (by omega)))
   clear aS ay hk;go_wp2_with fail
   refine wp_region_held_drew (S:=(λw'=>w'.cell? ⟨oB.heap.size,0,none⟩=some (.string (B x.dir))/\w'.cell? ⟨oB.heap.size,1,none⟩=some (.int .i64 x.next))) (by kernel_rfl) ?_ (λhH=>?_)
   ·exact⟨HB.2.c0,HB.2.c1⟩
   refine tk 0 hH ?_;refine tk 1 hH ?_;refine rY 2 λK hK=>?_
   go_simp;go_at_call 78
   refine(Pf _).mono ?_;rintro e w1⟨rfl,f1⟩;have b1:=HB.2.keep f1.fp id;have dQ:=zI (yI b1.c0 b1.c1);have F:=zI (HB.1.then f1.fp);clear f1 b1;go_wp2_with fail
   refine hK _ _ dQ (λhH=>?_)
   clear hK K;try simp only[zz]
   refine tk 3 hH ?_;refine tk 4 hH ?_;refine tk 5 hH ?_;refine tk 6 hH ?_;refine rY 7 λK hK=>?_
   go_simp;go_at_call 79
   refine(Wy _).mono ?_;rintro e w2⟨rfl,rfl⟩;go_wp2_with fail
   refine hK _ _ dQ (λhH=>?_)
   clear hK K;try simp only[zz]
   refine tk 8 hH ?_;refine tk 9 hH ?_;refine tk 10 hH ?_;refine tk 11 hH ?_;refine tk 12 hH ?_;refine tk 13 hH ?_;refine sk 14 hH ?_;refine sk 15 hH ?_;refine sk 16 hH ?_;refine sk 17 hH ?_;refine sk 18 hH ?_;refine sk 19 hH ?_;refine sk 20 hH ?_;refine sk 21 hH ?_;refine sk 22 hH ?_;refine sk 23 hH ?_;refine tk 24 hH ?_;refine tk 25 hH ?_;refine yD ?_;have eJ:=HK.out;go_wp2;go_roundw
   case rel=>exact⟨0+1,by have:=HK.out;omega,by go_num,⟨MY.then F.out,vP.out⟩⟩
   case measure=>have:=HK.out;simp[RowKit.intOf];omega
  obtain⟨z,hz,l7⟩:=je.2.2.2.1 (k-1) (by omega)
  have HP:=zI (yI je.2.2.1 hz);have MA:k-1<s.turns.length:=by omega
  have HZ:=zI (yI (l7 MA) (yI nC MA));have wk:IntKind.i64.wrap ((k:Int)-1)=((k-1:Nat):Int):=by rw[IntKind.wrap_i64];omega
  have qz:((0:Int)<(k:Int))=True:=eq_true (by omega)
  have ZU:(0<k)=True:=eq_true nC;have qn:(((k-1:Nat):Int)<(m:Int))=True:=eq_true (by omega)
  have ZV:(k-1<m)=True:=eq_true (by omega)
  by_cases hle:(Op.bytesLess x.dir z||x.dir == z)=true
  ·have wF:=zI (je.2.1 (.inr ⟨HZ.2.1,HZ.2.2,by rw[<-HZ.1];exact BJ hle⟩))
   clear ay hk nC hz l7;go_wp2_with fail
   refine wp_region_held_drew (S:=(λw'=>w'.cell? ⟨oB.heap.size,0,none⟩=some (.string (B x.dir))/\w'.cell? ⟨oB.heap.size,1,none⟩=some (.int .i64 x.next)/\w'.cell? ⟨w.heap.size,1,none⟩=some (.slice (some ⟨g,o,none⟩) m lV)/\w'.cell? ⟨g,o+(k-1)*2,none⟩=some (.string (B z)))) (by kernel_rfl) ?_ (λhH=>?_)
   ·exact⟨HB.2.c0,HB.2.c1,HP.1,HP.2⟩
   refine tk 0 hH ?_;refine tk 1 hH ?_;refine rY 2 λK hK=>?_
   go_simp;go_at_call 78
   refine(Pf _).mono ?_;rintro e w1⟨rfl,f1⟩;have b1:=HB.2.keep f1.fp id;have dQ:=zI (yI b1.c0 (yI b1.c1 (yI (f1.fp.cell HP.1 id) (f1.fp.cell HP.2 id))));have F:=zI (HB.1.then f1.fp);clear f1 b1;go_wp2_with fail
   refine hK _ _ dQ (λhH=>?_)
   clear hK K;try simp only[zz]
   refine tk 3 hH ?_;refine tk 4 hH ?_;refine tk 5 hH ?_;refine tk 6 hH ?_;refine rY 7 λK hK=>?_
   go_simp;go_at_call 79
   refine(Wy _).mono ?_;rintro e w2⟨rfl,rfl⟩;go_wp2_with fail
   refine hK _ _ dQ (λhH=>?_)
   clear hK K;try simp only[zz]
   refine tk 8 hH ?_;refine tk 9 hH ?_;refine tk 10 hH ?_;refine tk 11 hH ?_;refine tk 12 hH ?_;refine tk 13 hH ?_;refine tk 14 hH ?_;refine tk 15 hH ?_;refine tk 16 hH ?_;refine tk 17 hH ?_;refine tk 18 hH ?_;refine tk 19 hH ?_;refine tk 20 hH ?_;refine tk 21 hH ?_;refine tk 22 hH ?_;refine tk 23 hH ?_;refine tk 24 hH ?_;refine tk 25 hH ?_;refine yD ?_;go_wp2;go_ret;exact⟨aB wF.symm,HW.then F.out⟩
  have wG:(Op.bytesLess x.dir z||x.dir == z)=false:=by simpa using hle
  have vP:=zI (je.1 rfl (λ_ h=>by rw[<-HZ.1];exact JV wG))
  clear ay hk nC hz l7 hle;go_wp2_with fail
  refine wp_region_held_drew (S:=(λw'=>w'.cell? ⟨oB.heap.size,0,none⟩=some (.string (B x.dir))/\w'.cell? ⟨oB.heap.size,1,none⟩=some (.int .i64 x.next)/\w'.cell? ⟨w.heap.size,1,none⟩=some (.slice (some ⟨g,o,none⟩) m lV)/\w'.cell? ⟨g,o+(k-1)*2,none⟩=some (.string (B z)))) (by kernel_rfl) ?_ (λhH=>?_)
  ·exact⟨HB.2.c0,HB.2.c1,HP.1,HP.2⟩
  refine tk 0 hH ?_;refine tk 1 hH ?_;refine rY 2 λK hK=>?_
  go_simp;go_at_call 78
  refine(Pf _).mono ?_;rintro e w1⟨rfl,f1⟩;have b1:=HB.2.keep f1.fp id;have dQ:=zI (yI b1.c0 (yI b1.c1 (yI (f1.fp.cell HP.1 id) (f1.fp.cell HP.2 id))));have F:=zI (HB.1.then f1.fp);clear f1 b1;go_wp2_with fail
  refine hK _ _ dQ (λhH=>?_)
  clear hK K;try simp only[zz]
  refine tk 3 hH ?_;refine tk 4 hH ?_;refine tk 5 hH ?_;refine tk 6 hH ?_;refine rY 7 λK hK=>?_
  go_simp;go_at_call 79
  refine(Wy _).mono ?_;rintro e w2⟨rfl,rfl⟩;go_wp2_with fail
  refine hK _ _ dQ (λhH=>?_)
  clear hK K;try simp only[zz]
  refine tk 8 hH ?_;refine tk 9 hH ?_;refine tk 10 hH ?_;refine tk 11 hH ?_;refine tk 12 hH ?_;refine tk 13 hH ?_;refine tk 14 hH ?_;refine tk 15 hH ?_;refine tk 16 hH ?_;refine tk 17 hH ?_;refine tk 18 hH ?_;refine tk 19 hH ?_;refine tk 20 hH ?_;refine tk 21 hH ?_;refine tk 22 hH ?_;refine tk 23 hH ?_;refine tk 24 hH ?_;refine tk 25 hH ?_;refine yD ?_;have eJ:=HK.out;go_wp2;go_roundw
  case rel=>exact⟨k+1,by have:=HK.out;omega,by go_num,⟨MY.then F.out,vP.out⟩⟩
  case measure=>have:=HK.out;simp[RowKit.intOf];omega
 have cV:k=m:=by omega
 subst cV;have q3:((k:Int)<(k:Int))=False:=eq_false (by omega)
 have HOK:=zI (show r=true by
  obtain⟨a1,a2⟩:=I3 (λj hj=>hR.2 j hj (by rw[HT.1];exact hj))
  rw[<-HT.2.2.2];exact ei ⟨HN9.1,HN9.2,a1,a2⟩)
 have EE:=zI (ef.then hR.1);clear ay hk;go_wp2;go_ret;exact⟨aB HOK.symm,EE.out⟩
abbrev TS:TypeId:=162
structure Sw(lo b:Nat)(vn vt:Value)(s:St)(w:World):Prop where
 dR:w.heap[b]?=some (.cells #[vn,vt] TS (0,0))
 low:lo<=b
 own:Ow lo w vn s.nodes
 ez:ey lo w vt s.turns
 sV:vn.ownBlock≠some b
 zu:vt.ownBlock≠some b
 apart:∀k,vn.ownBlock=some k->vt.ownBlock≠some k
section
variable {lo b : Nat} {vn vt : Value} {s : St} {w w' : World}
theorem Sw.af(h:Sw lo b vn vt s w)(f:Fp ab w w'):Sw lo b vn vt s w':=⟨f.heap h.dR id,h.low,h.own.af f,h.ez.af f,h.sV,h.zu,h.apart⟩
theorem Sw.c0(h:Sw lo b vn vt s w):w.cell? ⟨b,0,none⟩=some vn:=by rw[cell_of_row _ _ _ _ _ _ h.dR];rfl
theorem Sw.c1(h:Sw lo b vn vt s w):w.cell? ⟨b,1,none⟩=some vt:=by rw[cell_of_row _ _ _ _ _ _ h.dR];rfl
theorem Sw.fz(h:Sw lo b vn vt s w)(j:Nat):w.frozen? ⟨b,j,none⟩=false:=by simp[World.frozen?,h.dR]
end
theorem oM{lo b:Nat}{vn vt:Value}{s:St}{w:World}(h:Sw lo b vn vt s w)(p:Bs)(ha:jO s.turns)(hn:s.turns.length<=1000000):
  Calls prog 276 #[.pointer (some ⟨b,0,none⟩),.string (B p)] w λe w'=>e=.returned (.tuple #[.int .i64 (cj s.turns p),.bool (eH s.turns p).isSome])/\Fp ab w w':=by
 have hs:=Ej vt s.turns p w h.ez.ns ha hn;have c1:=h.c1;obtain⟨ao,cap,rfl⟩:=h.ez.ns.shape;generalize s.turns.length=n at *;have HS:=zI hs;clear hs h hn ha;go_enter func276,ntmps276
 go_wp2_with fail
 refine HS.mono ?_;rintro e w1⟨rfl,hf⟩;have HF:=zI hf;clear hf;go_wp2;go_ret2
 exact⟨rfl,HF.out⟩
theorem Ge{lo b:Nat}{vn vt:Value}{s:St}{w:World}(h:Sw lo b vn vt s w)(p:Bs)(ha:jO s.turns)(hn:s.turns.length<=1000000):
  Calls prog 220 #[.pointer (some ⟨b,0,none⟩),.string (B p)] w λe w'=>e=.returned (.int .i64 (dt s.turns p))/\Fp ab w w':=by
 have hs:=oM h p ha hn;have c1:=h.c1;have dV:=kz ha p;obtain⟨k,hk⟩:∃k,k=cj s.turns p:=⟨_,rfl⟩;rw[<-hk]at hs;cases hf:eH s.turns p with
 |none=>
  have e:dt s.turns p=0:=by unfold dt;rw[hf];rfl
  rw[e];rw[hf]at hs;simp only[Option.isSome_none]at hs
  have HS:=zI hs;obtain⟨ao,cap,rfl⟩:=h.ez.ns.shape;clear hs h hn ha dV hk hf e;go_enter func220,ntmps220
  go_wp2_with fail
  refine HS.mono ?_;rintro e w1⟨rfl,hf⟩;have HF:=zI hf;clear hf;go_wp2;go_ret;exact⟨rfl,HF.out⟩
 |some t=>?_
 have e:dt s.turns p=t.next:=by unfold dt;rw[hf];rfl
 rw[e];rw[hf]at hs dV;simp only[Option.isSome_some]at hs
 have aS:k<s.turns.length:=by
  apply Decidable.byContradiction;intro c
  rw[dif_neg (by rw[<-hk];exact c)]at dV;cases dV
 have ht:s.turns[k]=t:=by
  subst hk;rw[dif_pos aS]at dV;split at dV
  ·exact(Option.some.inj dV).symm
  cases dV
 have HS:=zI hs;obtain⟨g,o,cap,rfl,_,_,_,aq⟩:=h.ez.ns.at (by omega)
 have aE:=aq k aS;rw[ht]at aE;obtain⟨n,aR⟩:∃n,n=s.turns.length:=⟨_,rfl⟩;rw[<-aR]at c1 hn;have q3:((k:Int)<(n:Int))=True:=eq_true (by omega)
 have q4:(k<n)=True:=eq_true (by omega)
 have HC:=zI (yI c1 aE);clear hs h ha dV hk hf e aq aS ht aE aR c1;go_enter func220,ntmps220
 go_wp2_with fail
 refine HS.mono ?_;rintro e w1⟨rfl,hf⟩;have c1:=hf.cell HC.1 id;have aE:=HC.2.keep hf id;have d0:=aE.c0;have d1:=aE.c1;have HF:=zI hf;clear hf aE;go_wp2;go_ret;exact⟨rfl,HF.out⟩
end
section
open Go.RowKit Pm
theorem kQ{lo b:Nat}{vn vt:Value}{s:St}{w:World}(h:Sw lo b vn vt s w)(x:Pt)(ha:fw s.nodes)(hn:s.nodes.length<=1000000)(hf:find s.nodes x.path=none):
  Calls prog 215 #[.pointer (some ⟨b,0,none⟩),fY x] w λe w'=>e=.returned (.tuple #[.pointer none,.int .i64 62])/\Fp ab w w':=by
 obtain⟨k,d,p,da,v,o,t⟩:=x;simp only at hf
 obtain⟨q,hq⟩:∃q,q=place s.nodes p:=⟨_,rfl⟩;have hs:=λw' (f:Fp ab w w')=>qj vn s.nodes p w' (h.own.ns.af f) ha hn
 rw[hf,<-hq]at hs;simp only[Option.isSome_none]at hs
 have HS:=zI hs;have HA:=zI (λo=>aa w o)
 have wo:=h.c0;obtain⟨ao,cap,rfl⟩:=h.own.ns.shape;have HD:=zI (((Fp.refl ab w).alloc (Obj.cells #[.int .i64 k,.string (B d),.string (B p),.string (B da),.int .i64 v,.int .i64 o,.bool t] TP)).drew);have bg:=zI (yI (HD.cell wo id) ((Fp.refl ab _).drew.cell (aH (heap_alloc_new w (Obj.cells #[.int .i64 k,.string (B d),.string (B p),.string (B da),.int .i64 v,.int .i64 o,.bool t] TP))).2.2.1 id));unfold fY au;generalize s.nodes.length=n at *;clear hs h hn ha hf hq wo;go_enter func215,ntmps215
 go_wp2_with fail
 refine wp_region_held_drew (S:=(λw'=>w'.cell? ⟨b,0,none⟩=some (.slice ao n cap)/\w'.cell? ⟨w.heap.size,2,none⟩=some (.string (B p)))) (by kernel_rfl) ?_ (λhH=>?_)
 ·exact bg.out
 refine tk 0 hH ?_;refine tk 1 hH ?_;refine tk 2 hH ?_;refine tk 3 hH ?_;refine tk 4 hH ?_;refine tk 5 hH ?_;refine rY 6 λK hK=>?_
 go_simp;go_at_call 217
 refine(HS _ HD.out).mono ?_;rintro e w1⟨rfl,hf⟩;have dQ:=zI (yI (hf.cell bg.1 id) (hf.cell bg.2 id));have HF:=zI (HD.then hf);clear hf;go_wp2_with fail
 refine hK _ _ dQ (λhH=>?_)
 clear hK K;try simp only[zz]
 refine tk 7 hH ?_;refine tk 8 hH ?_;refine tk 9 hH ?_;refine tk 10 hH ?_;refine tk 11 hH ?_;refine yD ?_;go_wp2;go_ret2
 exact⟨rfl,HF.out⟩
theorem gA{lo b:Nat}{vn vt:Value}{s:St}{w:World}(h:Sw lo b vn vt s w)(x:Pt)(ha:fw s.nodes)(hn:s.nodes.length<=1000000){y:Nd}(hf:find s.nodes x.path=some y):
  Calls prog 215 #[.pointer (some ⟨b,0,none⟩),fY x] w λe w'=>∃G,vn.ownBlock=some G/\dM w G (place s.nodes x.path*5) y/\e=.returned (.tuple #[.pointer (some ⟨G,place s.nodes x.path*5,none⟩),.int .i64 0])/\Fp ab w w':=by
 obtain⟨k,d,p,da,v,o,t⟩:=x;simp only at hf|-
 have dV:=lY ha p;rw[hf]at dV;obtain⟨q,hq⟩:∃q,q=place s.nodes p:=⟨_,rfl⟩;rw[<-hq]
 have Rc:q<s.nodes.length:=by
  apply Decidable.byContradiction;intro c
  rw[dif_neg (by rw[<-hq];exact c)]at dV;cases dV
 have hy:s.nodes[q]=y:=by
  subst hq;rw[dif_pos Rc]at dV;split at dV
  ·exact(Option.some.inj dV).symm
  cases dV
 have hs:=λw' (f:Fp ab w w')=>qj vn s.nodes p w' (h.own.ns.af f) ha hn
 rw[hf,<-hq]at hs;simp only[Option.isSome_some]at hs
 have HS:=zI hs;have HA:=zI (λo=>aa w o)
 have hc:=h.c0;rcases h.own.ways with⟨_,e⟩|⟨G,cap,rfl,h1,_⟩
 ·rw[e]at Rc;simp at Rc
 have aE:=h1.nd q Rc;rw[hy,Nat.zero_add]at aE;obtain⟨n,aR⟩:∃n,n=s.nodes.length:=⟨_,rfl⟩;rw[<-aR]at hc hn Rc HS|-;have q3:((q:Int)<(n:Int))=True:=eq_true (by omega)
 have q4:(q<n)=True:=eq_true (by omega)
 have HC:=zI (yI hc aE);have HD:=zI (((Fp.refl ab w).alloc (Obj.cells #[.int .i64 k,.string (B d),.string (B p),.string (B da),.int .i64 v,.int .i64 o,.bool t] TP)).drew);have bg:=zI (yI (HD.cell hc id) ((Fp.refl ab _).drew.cell (aH (heap_alloc_new w (Obj.cells #[.int .i64 k,.string (B d),.string (B p),.string (B da),.int .i64 v,.int .i64 o,.bool t] TP))).2.2.1 id));unfold fY au;clear hs h ha hf dV hq Rc hy h1 aE aR hc;go_enter func215,ntmps215
 go_wp2_with fail
 refine wp_region_held_drew (S:=(λw'=>w'.cell? ⟨b,0,none⟩=some (.slice (some ⟨G,0,none⟩) n cap)/\w'.cell? ⟨w.heap.size,2,none⟩=some (.string (B p)))) (by kernel_rfl) ?_ (λhH=>?_)
 ·exact bg.out
 refine tk 0 hH ?_;refine tk 1 hH ?_;refine tk 2 hH ?_;refine tk 3 hH ?_;refine tk 4 hH ?_;refine tk 5 hH ?_;refine rY 6 λK hK=>?_
 go_simp;go_at_call 217
 refine(HS _ HD.out).mono ?_;rintro e w1⟨rfl,hf⟩;have dQ:=zI (yI (hf.cell bg.1 id) (hf.cell bg.2 id));have HF:=zI (HD.then hf);clear hf;go_wp2_with fail
 refine hK _ _ dQ (λhH=>?_)
 clear hK K;try simp only[zz]
 refine tk 7 hH ?_;refine tk 8 hH ?_;refine tk 9 hH ?_;refine tk 10 hH ?_;refine tk 11 hH ?_;refine yD ?_;have c0:=dQ.1;go_wp2;go_ret2
 exact⟨G,rfl,HC.2,rfl,HF.out⟩
end
end Go.Proofs.YtgafcelloiagmaaGreatDoor
