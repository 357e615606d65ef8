/- A text of this proof. -/
import Derived.Test.YtgafcelloiagmaaGreatDoorZCL
import Derived.Test.YtgafcelloiagmaaGreatDoorZCP
import Derived.Test.YtgafcelloiagmaaGreatDoorZCQ
import Derived.Test.YtgafcelloiagmaaGreatDoorZCX
set_option maxHeartbeats 16000000
set_option linter.unusedSimpArgs false
set_option linter.unusedVariables false
set_option maxRecDepth 20000
namespace Go.Proofs.YtgafcelloiagmaaGreatDoor
open Go.Proofs.Tryz
section
open Go.RowKit Pm
theorem bxH(wr:World)(x:Hl):dz (wr.alloc (Obj.cells #[.string (B x.d),.int .i64 x.t,.int .i64 x.a] dx)).drew wr.heap.size 0 x:=by
 have h:=heap_alloc_new wr (Obj.cells #[.string (B x.d),.int .i64 x.t,.int .i64 x.a] dx);have hb:dz (wr.alloc (Obj.cells #[.string (B x.d),.int .i64 x.t,.int .i64 x.a] dx)) wr.heap.size 0 x:=⟨by rw[cell_of_row _ _ _ _ _ _ h];rfl,by rw[cell_of_row _ _ _ _ _ _ h];rfl,by rw[cell_of_row _ _ _ _ _ _ h];rfl⟩
 exact hb.keep ((Fp.refl ab _).drew) id
def Fo(l:List Hl)(j:Nat)(hj:j<l.length):Prop:=nA l[j]=true/\(0<j->∀h:j-1<l.length,lt l[j-1].d l[j].d=true)
theorem zv{l:List Hl}(h:kT l):∀j (hj:j<l.length),Fo l j hj:=λj hj=>
 ⟨h.ok _ (List.getElem_mem hj),λh0 h1=>h.up.at h1 hj (by omega)⟩
theorem Rr{l:List Hl}(h:∀i (hi:i+1<l.length),lt l[i].d l[i+1].d=true):kB l:=List.pairwise_iff_getElem.2 (λi j hi hj jR=>by
 induction j with
 |zero=>omega
 |succ j ih=>
  rcases Nat.lt_or_eq_of_le (show i<=j by omega) with e|e
  ·exact lt_trans (ih (by omega) e) (h j hj)
  subst e;exact h i hj)
theorem Fq{l:List Hl}(Jn:l.length<=32)(h:∀j (hj:j<l.length),Fo l j hj):kT l:=
 ⟨Jn,λn hn=>by obtain⟨i,hi,rfl⟩:=List.getElem_of_mem hn;exact(h i hi).1,Rr λi hi=>by have:=(h (i+1) hi).2 (by omega) (by omega);simpa using this⟩
theorem nB(v:Value)(l:List Hl)(w:World)(hv:di w v l)(hs:∀x∈l,x.d.length<=1000000)(hn:l.length<=1000000):
  Calls prog 42 #[v] w λe w'=>e=.returned (.bool (dO l))/\Fp ab w w':=by
 obtain⟨ao,cap,rfl⟩:=hv.shape;obtain⟨n,aR⟩:∃n,n=l.length:=⟨_,rfl⟩;obtain⟨r,hr⟩:∃r,dO l=r:=⟨_,rfl⟩
 have cP:¬kT l->r=false:=λh=>by
  cases e:r with
  |false=>rfl
  |true=>rw[e]at hr;exact absurd ((dA l).1 hr) h
 have Fu:=zI (show ∀k (hk:k<l.length),¬Fo l k hk->r=false from λk hk h=>cP (λc=>h (zv c k hk)))
 have WV:=zI (show kT l->r=true from λh=>by rw[<-hr];exact(dA l).2 h)
 have Rs:=zI (show 32<l.length->r=false from λh=>cP (λc=>by have:=c.len;omega))
 have HX:=zI (yI aR (yI hv hs));rw[hr,<-aR];have jS:n<=1000000:=by omega
 clear hv hs hn aR hr cP;go_enter func42,ntmps42
 by_cases Jn:32<n
 ·have q1:((32:Int)<(n:Int))=True:=eq_true (by omega)
  have q2:(32<n)=True:=eq_true Jn;have HE:=zI (Rs (by rw[<-HX.1];exact Jn))
  clear Jn;go_wp2;go_ret;exact⟨aB HE.symm,Fp.refl _ _⟩
 have q1:((32:Int)<(n:Int))=False:=eq_false (by omega)
 have q2:(32<n)=False:=eq_false Jn;have H32:=zI Jn;clear Jn;go_wp2_with fail
 go_loopw [10] (λi wr=>∃k:Nat,k<=n/\i=.int .i64 k/\Hid (Fp ab w wr/\∀j (hj:j<l.length),j<k->Fo l j hj)) (λi _=>n-(RowKit.intOf i).toNat)
 case atStart=>exact⟨0,Nat.zero_le _,rfl,Fp.refl _ _,λj _ h=>absurd h (Nat.not_lt_zero j)⟩
 obtain⟨k,hk,rfl,hR⟩:=hrel;rename_i wr _
 by_cases ay:k<n
 ·have aS:k<l.length:=by rw[<-HX.1];exact ay
  obtain⟨g,o,aY,e,_,_,_,aq⟩:=HX.2.1.at (by omega)
  injection e with e1 e2 e3
  subst e1 e3;have f0:=hR.1;have aE:=(aq k aS).keep f0 id;obtain⟨x,hx⟩:∃x,x=l[k]:=⟨_,rfl⟩;rw[<-hx]at aE;have c0:=aE.c0;have c1:=aE.c1;have c2:=aE.c2;unfold au at c0;have q3:((k:Int)<(n:Int))=True:=eq_true (by omega)
  have q4:(k<n)=True:=eq_true ay;have zw:x.d.length<=1000000:=HX.2.2 x (by rw[hx];exact List.getElem_mem aS)
  have JT:=λw=>N0 x w zw
  unfold lF au at JT;have zx:=bxH wr x;have HB:=zI (yI (((Fp.refl ab wr).alloc (Obj.cells #[.string (B x.d),.int .i64 x.t,.int .i64 x.a] dx)).drew) zx);have HW:=zI (f0);have HK:=zI ay;have dP:∀k',k'<l.length->∃z,(wr.alloc (Obj.cells #[.string (B x.d),.int .i64 x.t,.int .i64 x.a] dx)).drew.cell? ⟨g,o+k'*3,none⟩=some (.string (B z))/\∀h:k'<l.length,z=(l[k']).d:=λk' h=>⟨_,HB.1.cell ((aq k' h).keep f0 id).c0 id,λ_=>rfl⟩
  have hold:=hR.2
  have cO:nA x=true->(0<k->∀h:k-1<l.length,lt (l[k-1]).d x.d=true)->∀j (hj:j<l.length),j<k+1->Fo l j hj:=λa b j hj rJ=>by
   rcases Nat.lt_or_eq_of_le (show j<=k by omega) with e|e
   ·exact hold j hj e
   subst e;exact⟨by rw[<-hx];exact a,λh0 h1=>by rw[<-hx];exact b h0 h1⟩
  have cP:(nA x=false\/(0<k/\∃h:k-1<l.length,lt (l[k-1]).d x.d=false))->r=false:=λh=>Fu k aS (λc=>by
   rcases h with h|⟨h0,h1,h2⟩
   ·have:=c.1;rw[<-hx,h]at this;cases this
   have:=c.2 h0 h1;rw[<-hx,h2]at this;cases this)
  obtain⟨fx,ux⟩:∃b,nA x=b:=⟨_,rfl⟩;rw[ux]at JT cO cP;have JU:=zI JT;have je:=zI (yI cO (yI cP (yI dP aS)));clear JT zx dP hold cO cP ux zw hx aE aq f0;cases fx with
  |false=>
   have wF:=zI (je.2.1 (.inl rfl));clear aS ay hk;go_wp2_with fail
   refine wp_region_held_drew (S:=(λw'=>w'.cell? ⟨wr.heap.size,0,none⟩=some (.string (B x.d))/\w'.cell? ⟨wr.heap.size,1,none⟩=some (.int .i64 x.t)/\w'.cell? ⟨wr.heap.size,2,none⟩=some (.int .i64 x.a))) (by kernel_rfl) ?_ (λhH=>?_)
   ·exact⟨HB.2.c0,HB.2.c1,HB.2.c2⟩
   try simp only[zz]
   refine gR 0 hH ?_;refine rY 1 (λK hK=>?_)
   go_simp;go_at_call 80
   refine(JU _).mono ?_;rintro e w1⟨rfl,f1⟩;have b1:=HB.2.keep f1 id;have dQ:=zI (yI b1.c0 (yI b1.c1 b1.c2));have F:=zI (HB.1.then f1);clear f1 b1;go_wp2_with fail
   refine hK _ _ dQ (λhH=>?_)
   clear hK K;try simp only[zz]
   refine gR 2 hH ?_;refine gR 3 hH ?_;refine rK 4 hH ?_;refine rK 5 hH ?_;refine rK 6 hH ?_;refine rK 7 hH ?_;refine rK 8 hH ?_;refine rK 9 hH ?_;refine rK 10 hH ?_;refine rK 11 hH ?_;refine rK 12 hH ?_;refine rK 13 hH ?_;refine rK 14 hH ?_;refine rK 15 hH ?_;refine rK 16 hH ?_;refine gR 17 hH ?_;refine yD ?_;go_wp2;go_ret;exact⟨aB wF.symm,HW.then F.out⟩
  |true=>?_
  rcases Nat.eq_zero_or_pos k with nC|nC
  ·subst nC
   simp only[Nat.zero_mul,Nat.add_zero]at c0 c1 c2
   have vP:=zI (je.1 rfl (λh=>absurd h (by omega)))
   clear aS ay hk;go_wp2_with fail
   refine wp_region_held_drew (S:=(λw'=>w'.cell? ⟨wr.heap.size,0,none⟩=some (.string (B x.d))/\w'.cell? ⟨wr.heap.size,1,none⟩=some (.int .i64 x.t)/\w'.cell? ⟨wr.heap.size,2,none⟩=some (.int .i64 x.a))) (by kernel_rfl) ?_ (λhH=>?_)
   ·exact⟨HB.2.c0,HB.2.c1,HB.2.c2⟩
   try simp only[zz]
   refine gR 0 hH ?_;refine rY 1 (λK hK=>?_)
   go_simp;go_at_call 80
   refine(JU _).mono ?_;rintro e w1⟨rfl,f1⟩;have b1:=HB.2.keep f1 id;have dQ:=zI (yI b1.c0 (yI b1.c1 b1.c2));have F:=zI (HB.1.then f1);clear f1 b1;go_wp2_with fail
   refine hK _ _ dQ (λhH=>?_)
   clear hK K;try simp only[zz]
   refine gR 2 hH ?_;refine gR 3 hH ?_;refine gR 4 hH ?_;refine gR 5 hH ?_;refine gR 6 hH ?_;refine rK 7 hH ?_;refine rK 8 hH ?_;refine rK 9 hH ?_;refine rK 10 hH ?_;refine rK 11 hH ?_;refine rK 12 hH ?_;refine rK 13 hH ?_;refine rK 14 hH ?_;refine rK 15 hH ?_;refine gR 16 hH ?_;refine gR 17 hH ?_;refine yD ?_;have eJ:=HK.out;go_wp2;go_roundw
   case rel=>exact⟨1,by have:=HK.out;omega,by go_num,⟨HW.then F.out,vP.out⟩⟩
   case measure=>have:=HK.out;simp[RowKit.intOf];omega
  obtain⟨z,hz,l7⟩:=je.2.2.1 (k-1) (by omega)
  have HP:=zI hz;have MA:k-1<l.length:=by omega
  have HZ:=zI (yI (l7 MA) (yI nC MA));have wk:IntKind.i64.wrap ((k:Int)-1)=((k-1:Nat):Int):=by rw[IntKind.wrap_i64];omega
  have qz:((0:Int)<(k:Int))=True:=eq_true (by omega)
  have ZU:(0<k)=True:=eq_true nC;have qn:(((k-1:Nat):Int)<(n:Int))=True:=eq_true (by omega)
  have ZV:(k-1<n)=True:=eq_true (by omega)
  by_cases hle:(Op.bytesLess x.d z||x.d == z)=true
  ·have wF:=zI (je.2.1 (.inr ⟨HZ.2.1,HZ.2.2,by rw[<-HZ.1];exact BJ hle⟩))
   clear ay hk nC hz l7;go_wp2_with fail
   refine wp_region_held_drew (S:=(λw'=>w'.cell? ⟨wr.heap.size,0,none⟩=some (.string (B x.d))/\w'.cell? ⟨wr.heap.size,1,none⟩=some (.int .i64 x.t)/\w'.cell? ⟨wr.heap.size,2,none⟩=some (.int .i64 x.a)/\w'.cell? ⟨g,o+(k-1)*3,none⟩=some (.string (B z)))) (by kernel_rfl) ?_ (λhH=>?_)
   ·exact⟨HB.2.c0,HB.2.c1,HB.2.c2,HP.out⟩
   try simp only[zz]
   refine gR 0 hH ?_;refine rY 1 (λK hK=>?_)
   go_simp;go_at_call 80
   refine(JU _).mono ?_;rintro e w1⟨rfl,f1⟩;have b1:=HB.2.keep f1 id;have dQ:=zI (yI b1.c0 (yI b1.c1 (yI b1.c2 (f1.cell HP id))));have F:=zI (HB.1.then f1);clear f1 b1;go_wp2_with fail
   refine hK _ _ dQ (λhH=>?_)
   clear hK K;try simp only[zz]
   refine gR 2 hH ?_;refine gR 3 hH ?_;refine gR 4 hH ?_;refine gR 5 hH ?_;refine gR 6 hH ?_;refine gR 7 hH ?_;refine gR 8 hH ?_;refine gR 9 hH ?_;refine gR 10 hH ?_;refine gR 11 hH ?_;refine gR 12 hH ?_;refine gR 13 hH ?_;refine gR 14 hH ?_;refine gR 15 hH ?_;refine gR 16 hH ?_;refine gR 17 hH ?_;refine yD ?_;go_wp2;go_ret;exact⟨aB wF.symm,HW.then F.out⟩
  have wG:(Op.bytesLess x.d z||x.d == z)=false:=by simpa using hle
  have vP:=zI (je.1 rfl (λ_ h=>by rw[<-HZ.1];exact JV wG))
  clear ay hk nC hz l7 hle;go_wp2_with fail
  refine wp_region_held_drew (S:=(λw'=>w'.cell? ⟨wr.heap.size,0,none⟩=some (.string (B x.d))/\w'.cell? ⟨wr.heap.size,1,none⟩=some (.int .i64 x.t)/\w'.cell? ⟨wr.heap.size,2,none⟩=some (.int .i64 x.a)/\w'.cell? ⟨g,o+(k-1)*3,none⟩=some (.string (B z)))) (by kernel_rfl) ?_ (λhH=>?_)
  ·exact⟨HB.2.c0,HB.2.c1,HB.2.c2,HP.out⟩
  try simp only[zz]
  refine gR 0 hH ?_;refine rY 1 (λK hK=>?_)
  go_simp;go_at_call 80
  refine(JU _).mono ?_;rintro e w1⟨rfl,f1⟩;have b1:=HB.2.keep f1 id;have dQ:=zI (yI b1.c0 (yI b1.c1 (yI b1.c2 (f1.cell HP id))));have F:=zI (HB.1.then f1);clear f1 b1;go_wp2_with fail
  refine hK _ _ dQ (λhH=>?_)
  clear hK K;try simp only[zz]
  refine gR 2 hH ?_;refine gR 3 hH ?_;refine gR 4 hH ?_;refine gR 5 hH ?_;refine gR 6 hH ?_;refine gR 7 hH ?_;refine gR 8 hH ?_;refine gR 9 hH ?_;refine gR 10 hH ?_;refine gR 11 hH ?_;refine gR 12 hH ?_;refine gR 13 hH ?_;refine gR 14 hH ?_;refine gR 15 hH ?_;refine gR 16 hH ?_;refine gR 17 hH ?_;refine yD ?_;have eJ:=HK.out;go_wp2;go_roundw
  case rel=>exact⟨k+1,by have:=HK.out;omega,by go_num,⟨HW.then F.out,vP.out⟩⟩
  case measure=>have:=HK.out;simp[RowKit.intOf];omega
 have cV:k=n:=by omega
 subst cV;have q3:((k:Int)<(k:Int))=False:=eq_false (by omega)
 have HE:=zI (WV (Fq (by have:=HX.1;have:=H32.out;omega) (λj hj=>hR.2 j hj (by rw[HX.1];exact hj))))
 clear ay hk;go_wp2;go_ret;exact⟨aB HE.symm,hR.1⟩
def Fv(p:Bs):List Value:=[.string (B p),.string ⟨#[]⟩,.int .i64 0,.int .i64 0,.int .i64 0]
theorem iI.c0{w:World}{g o:Nat}{p:Bs}(h:iI Fv w g o p):w.cell? ⟨g,o,none⟩=some (.string (B p)):=h.get 0 _ rfl
theorem iI.c1{w:World}{g o:Nat}{p:Bs}(h:iI Fv w g o p):w.cell? ⟨g,o+1,none⟩=some (.string ⟨#[]⟩):=h.get 1 _ rfl
theorem iI.c2{w:World}{g o:Nat}{p:Bs}(h:iI Fv w g o p):w.cell? ⟨g,o+2,none⟩=some (.int .i64 0):=h.get 2 _ rfl
theorem iI.c3{w:World}{g o:Nat}{p:Bs}(h:iI Fv w g o p):w.cell? ⟨g,o+3,none⟩=some (.int .i64 0):=h.get 3 _ rfl
theorem iI.c4{w:World}{g o:Nat}{p:Bs}(h:iI Fv w g o p):w.cell? ⟨g,o+4,none⟩=some (.int .i64 0):=h.get 4 _ rfl
structure qc(w:World)(o:Option (List Hl))(e:Ending)(w':World):Prop where
 ex:∃v',e=.returned (.tuple #[v',.bool o.isSome])/\di w' v' (o.getD [])
 fp:Fp ab w w'
theorem qc.none{w w':World}(f:Fp ab w w'):qc w none (.returned (.tuple #[.slice none 0 0,.bool false])) w':=⟨⟨_,rfl,di.nil w'⟩,f⟩
theorem qc.from{w w1 w':World}{o:Option (List Hl)}{e:Ending}(h:qc w1 o e w')(f:Fp ab w w1):qc w o e w':=⟨h.ex,f.then h.fp⟩
structure BK(l:List Hl):Prop where
 n:l.length<=1000000
 p:∀x∈l,x.d.length<=1000000
theorem Fy(v:Value)(l:List Hl)(d:Bs)(w:World)(hv:di w v l)(hs:BK l)(hd:d.length<=1000000):
  Calls prog 35 #[v,.string (B d)] w λe w'=>e=.returned (.int .i64 (idx (CX l d)))/\Fp ab w w':=by
 have h1:=nB v l w hv hs.p hs.n;have h2:=λW (f:Fp ab w W)=>sW v l d W (hv.af f) hs.n hs.p hd
 obtain⟨ao,cap,rfl⟩:=hv.shape;have e:CX l d=if dO l=true then bk l d l.length else none:=rfl;rw[e];generalize bk l d l.length=z at *;generalize dO l=b at *;generalize l.length=n at *;have H1:=zI h1;have H2:=zI h2;clear h1 h2 hv hs hd e;go_enter func35,ntmps35
 go_wp2_with fail
 refine H1.mono ?_;rintro e w1⟨rfl,hf⟩;have HF:=zI hf;clear hf;cases b with
 |false=>
  go_wp2;go_ret;exact⟨rfl,HF.out⟩
 |true=>?_
 go_wp2_with fail
 refine(H2 _ HF.out).mono ?_;rintro e w2⟨rfl,hf⟩;have HG:=zI (HF.then hf);clear hf;go_wp2;go_ret;exact⟨rfl,HG.out⟩
theorem FA(v:Value)(l:List Hl)(d:Bs)(w:World)(hv:di w v l)(hs:BK l)(hd:d.length<=1000000):
  Calls prog 26 #[v,.string (B d)] w λe w'=>e=.returned (.int .i64 (N1 l d))/\Fp ab w w':=by
 have h1:=Fy v l d w hv hs hd;have MB:=hs.n;cases ho:CX l d with
 |none=>
  have e:N1 l d=3:=by unfold N1;rw[kC ho]
  rw[e];obtain⟨ao,cap,rfl⟩:=hv.shape;rw[ho]at h1;generalize l.length=n at *;have H1:=zI h1;clear h1 hv hs hd e ho MB;go_enter func26,ntmps26
  go_wp2_with fail
  refine H1.mono ?_;rintro e w1⟨rfl,hf⟩;have HF:=zI hf;clear hf;unfold idx;go_wp2;go_ret;exact⟨rfl,HF.out⟩
 |some k=>?_
 have hk:=uy ho;have e:N1 l d=l[k].a:=by unfold N1;rw[mq ho]
 rw[e];obtain⟨g,o,cap,rfl,_,_,_,aq⟩:=hv.at (by omega)
 have hc:=(aq k hk).c2;rw[ho]at h1;obtain⟨n,hn⟩:∃n,n=l.length:=⟨_,rfl⟩;rw[<-hn]at h1 hk MB|-;generalize l[k].a=a at *;have q1:((k:Int) == -1)=false:=beq_eq_false_iff_ne.2 (by omega)
 have q2:((k:Int)<(n:Int))=True:=eq_true (by omega)
 have q3:(k<n)=True:=eq_true hk;have q4:((k:Int) = -1)=False:=eq_false (by omega)
 have H1:=zI h1;have HC:=zI hc;clear h1 hv hs hd e ho aq hn hk hc;go_enter func26,ntmps26
 go_wp2_with fail
 refine H1.mono ?_;rintro e w1⟨rfl,hf⟩;have HF:=zI hf;have c2:=hf.cell HC id;clear hf;unfold idx;go_wp2;go_ret;exact⟨rfl,HF.out⟩
theorem JW(v:Value)(l:List Hl)(x:Hl)(w:World)(hv:di w v l)(hu:kB l)(Jn:l.length<=32):
  Calls prog 184 #[v,lF x] w λe w'=>qc w (mr l x) e w':=by
 obtain⟨xd,xt,xa⟩:=x;have f1:=aa w (.cells #[.string (B xd),.int .i64 xt,.int .i64 xa] dx);have fB:=heap_alloc_new w (.cells #[.string (B xd),.int .i64 xt,.int .i64 xa] dx);have hp:=λW (f:Fp ab w W)=>FC v l xd W (hv.af f) hu (by omega)
 have dN:=λW (f:Fp ab w W)=>jX v l W (hv.af f) (by omega)
 obtain⟨ao,cap,rfl⟩:=hv.shape;obtain⟨n,hn⟩:∃n,n=l.length:=⟨_,rfl⟩;obtain⟨pl,cC⟩:∃k,k=nD l xd:=⟨_,rfl⟩;have hle:pl<=n:=by rw[cC,hn];exact FD l xd
 obtain⟨b,hb⟩:∃b,(eX l xd).isSome=b:=⟨_,rfl⟩;have hw:mr l ⟨xd,xt,xa⟩=if b=true\/n<32 then some (eP l ⟨xd,xt,xa⟩) else none:=by rw[hn,<-hb];rfl
 have lG:b=true->pl<n/\eP l ⟨xd,xt,xa⟩=l.set pl ⟨xd,xt,xa⟩:=λh=>by
  rw[hn,cC];exact wH hu (x:=⟨xd,xt,xa⟩) (by rw[<-h,<-hb])
 have FE:b=false->eP l ⟨xd,xt,xa⟩=eB l pl ⟨xd,xt,xa⟩:=λh=>by
  rw[cC];exact wI (x:=⟨xd,xt,xa⟩) (by simpa[h]using hb)
 obtain⟨o,ho⟩:∃o,mr l ⟨xd,xt,xa⟩=o:=⟨_,rfl⟩;rw[ho]at hw|-;have HO:=zI hw;rw[hb,<-cC,<-hn]at hp;rw[<-hn]at dN Jn|-;have HP:=zI hp;have HC:=zI dN;have HX:=zI (yI hn (yI lG (yI FE hle)));have ef:=zI (yI f1 fB);have c0:(w.alloc (.cells #[.string (B xd),.int .i64 xt,.int .i64 xa] dx)).cell? ⟨w.heap.size,0,none⟩=some (.string (B xd)):=by rw[cell_of_row _ _ _ _ _ _ fB];rfl
 unfold lF au;clear hp dN hv hu hn cC hb hw lG FE f1 fB hle ho;simp only
 go_enter func184,ntmps184
 go_wp2_with fail
 refine(HP _ ef.1).mono ?_;rintro e w1⟨rfl,hf⟩;have b1:=hf.heap ef.2 id;have HG:=zI (yI (ef.1.then hf) b1);clear hf c0 b1;cases b with
 |true=>
  have Jo:pl<n:=(HX.2.1 rfl).1;have jY:pl<l.length:=by rw[<-HX.1];exact Jo
  have lE:=(HX.2.1 rfl).2;have N2:pl<=32:=by omega
  have q2:((pl:Int)<(n:Int))=True:=eq_true (by omega)
  have q3:(pl<n)=True:=eq_true Jo;have HL:=zI (yI jY lE);clear Jo jY lE;go_wp2_with fail
  refine(HC _ HG.1).mono ?_;rintro e w2⟨v2,rfl,hR⟩;have b2:=hR.fp.heap HG.2 id;have d0:w2.cell? ⟨w.heap.size,0,none⟩=some (.string (B xd)):=by rw[cell_of_row _ _ _ _ _ _ b2];rfl
  have d1:w2.cell? ⟨w.heap.size,1,none⟩=some (.int .i64 xt):=by rw[cell_of_row _ _ _ _ _ _ b2];rfl
  have d2:w2.cell? ⟨w.heap.size,2,none⟩=some (.int .i64 xa):=by rw[cell_of_row _ _ _ _ _ _ b2];rfl
  rcases hR.own.ways with⟨rfl,h0⟩|⟨G,cp,rfl,hN,bq⟩
  ·exfalso;have h1:=HL.1;rw[h0]at h1;simp at h1
  have hlen:l.length=n:=HX.1.symm;have hM:=hN.put pl HL.1 ⟨xd,xt,xa⟩;have hF:=BL (S:=ab) (HG.1.then hR.fp) (b:=G) (.inr (by have:=HG.1.size;omega)) (pl*3) (au xd) (.int .i64 xt) (.int .i64 xa)
  have aE:=hN.nd pl HL.1;rw[Nat.zero_add]at aE;have y0:=aE.c0;have y1:=aE.c1;have y2:=aE.c2;have f0:=hN.frozen (pl*3);have f1:=hN.frozen (pl*3+1);have f2:=hN.frozen (pl*3+2);have CY:=hM.ns;rw[List.length_set,hlen,<-HL.2]at CY;unfold au at CY hF y0;have HR:=zI (yI CY hF);rw[hlen];clear hlen hM hF aE CY hN bq hR b2;go_wp2;go_ret2
  have ho:o=some (eP l ⟨xd,xt,xa⟩):=by rw[HO.out];simp
  rw[ho];exact⟨⟨_,rfl,HR.1⟩,HR.2⟩
 |false=>?_
 by_cases hn32:n=32
 ·have q1:((n:Int) == 32)=true:=by rw[beq_iff_eq];omega
  have q5:((n:Int)=32)=True:=eq_true (by omega)
  have q2:(n<32)=False:=eq_false (by omega)
  clear hn32;go_wp2;go_ret2
  have ho:o=none:=by rw[HO.out];simp[q2]
  rw[ho];exact qc.none HG.1
 have q1:((n:Int) == 32)=false:=beq_eq_false_iff_ne.2 (by omega)
 have q4:((n:Int)=32)=False:=eq_false (by omega)
 have q2:(n<32)=True:=eq_true (by omega)
 have MC:=HX.2.2.1 rfl;have HL:=zI MC;clear hn32 MC;go_wp2_with fail
 refine(HC _ HG.1).mono ?_;rintro e w2⟨v2,rfl,hR⟩;have b2:=hR.fp.heap HG.2 id;have d0:w2.cell? ⟨w.heap.size,0,none⟩=some (.string (B xd)):=by rw[cell_of_row _ _ _ _ _ _ b2];rfl
 have d1:w2.cell? ⟨w.heap.size,1,none⟩=some (.int .i64 xt):=by rw[cell_of_row _ _ _ _ _ _ b2];rfl
 have d2:w2.cell? ⟨w.heap.size,2,none⟩=some (.int .i64 xa):=by rw[cell_of_row _ _ _ _ _ _ b2];rfl
 have HR:=zI (yI hR.own (yI (HG.1.then hR.fp) (yI hR.fp.size (show v2.ownBlock=some w2.heap.size->False from λe=>by have:=(World.ownsRow.lt hR.own _ e).2;omega))))
 clear hR b2;go_wp2_with fail
 have hX:=heap_alloc_new w2 (.cells #[.string (B xd),.int .i64 xt,.int .i64 xa] dx);refine(wJ (x:=⟨xd,xt,xa⟩) (X:=w2.heap.size) (HR.1.af (aa w2 _)) pl (by have:=HX.out;omega) hX (λe=>HR.2.2.2 e) (by have:=HX.out;omega) (by have h2:=HR.2.2.1;simp;omega)).mono ?_
 rintro e w3⟨v3,rfl,hI⟩
 have Rt:qc w (some (eP l ⟨xd,xt,xa⟩)) (.returned (.tuple #[v3,.bool true])) w3:=by
  refine⟨⟨v3,rfl,?_⟩,?_⟩
  ·show di w3 v3 (eP l ⟨xd,xt,xa⟩)
   rw[HL.out];exact hI.own.ns
  exact(HR.2.1.then (aa w2 _)).trans hI.fp (λk hk=>.inr (by have h1:=HR.1.low k hk;have h2:=HG.1.size;omega))
 have HN:=zI Rt;clear hI Rt;go_wp2;go_ret2
 have ho:o=some (eP l ⟨xd,xt,xa⟩):=by rw[HO.out];simp[q2]
 rw[ho];exact HN.out
theorem fHo:(prog.fieldsOf dx).toList=[⟨ "Prefix",9,0,false,"","",0⟩,⟨ "Epoch",2,1,false,"","",16⟩,⟨ "State",3,2,false,"","",24⟩]:=by kernel_rfl
theorem N3(w:World)(p p':ByteArray)(v v' t t':Int):(Op.equalIn 10000 dx (.agg #[.string p,.int .i64 v,.int .i64 t]) (.agg #[.string p',.int .i64 v',.int .i64 t'])).run prog w =
  .ok (decide (p.toList=p'.toList/\v=v'/\t=t')) w:=by
 rw[run_equalIn_agg w 9999 dx _ _ (by kernel_rfl) (by kernel_rfl),fHo]
 have e2:=λw a b=>run_equalIn_int (P:=prog) w 9998 2 .i64 .i64 a b Tryz.underlying2
 have e4:=λw a b=>run_equalIn_int (P:=prog) w 9998 3 .i64 .i64 a b Tryz.underlying3
 have e3:=λw a b=>run_equalIn_string (P:=prog) w 9998 9 a b Tryz.underlying9
 simp only[Op.eqFields]
 simp[e2,e3,e4,go_sem]
 by_cases h2:p.toList=p'.toList<;>by_cases h4:v=v'<;>by_cases h5:t=t'<;>simp[h2,h4,h5]
theorem BM(w:World)(x y:Hl):(Op.equalIn 10000 dx (.agg #[.string (B x.d),.int .i64 x.t,.int .i64 x.a]) (.agg #[.string (B y.d),.int .i64 y.t,.int .i64 y.a])).run prog w=.ok (decide (x=y)) w:=by
 rw[N3];congr 1
 simp only[N4]
 obtain⟨_,_,_⟩:=x;obtain⟨_,_,_⟩:=y;simp
structure ZW(l:List Hl)(x:Hl)(w:World)(k:Nat)(wr:World):Prop where
 fp:Fp ab w wr
 no:∀j (h:j<l.length),j<k->l[j]≠x
structure IxR(l:List Hl)(x:Hl)(w:World)(e:Ending)(w':World):Prop where
 ex:∃z:Int,e=.returned (.int .i64 z)/\(0<=z↔x∈l)
 fp:Fp ab w w'
theorem CZ(v:Value)(l:List Hl)(x:Hl)(w:World)(hv:di w v l)(hn:l.length<=1000000):
  Calls prog 183 #[v,lF x] w λe w'=>IxR l x w e w':=by
 obtain⟨xd,xt,xa⟩:=x;have f1:=aa w (.cells #[.string (B xd),.int .i64 xt,.int .i64 xa] dx);have fB:=heap_alloc_new w (.cells #[.string (B xd),.int .i64 xt,.int .i64 xa] dx);obtain⟨ao,cap,rfl⟩:=hv.shape;obtain⟨n,aR⟩:∃n,n=l.length:=⟨_,rfl⟩;have jS:n<=1000000:=by omega
 have HX:=zI (yI aR hv);have ef:=zI (yI f1 fB);rw[<-aR];have heq:=BM;unfold lF au;clear hv hn aR f1 fB;simp only
 go_enter func183,ntmps183
 go_wp2_with fail
 go_loopw [8] (λi wr=>∃k:Nat,k<=n/\i=.int .i64 k/\Hid (ZW l ⟨xd,xt,xa⟩ (w.alloc (.cells #[.string (B xd),.int .i64 xt,.int .i64 xa] dx)) k wr)) (λi _=>n-(RowKit.intOf i).toNat)
 case atStart=>exact⟨0,Nat.zero_le _,rfl,Fp.refl _ _,λj _ h=>absurd h (Nat.not_lt_zero j)⟩
 obtain⟨k,hk,rfl,hR⟩:=hrel;rename_i wr _
 have b1:=hR.fp.heap ef.2 id;have b2:wr.cell? ⟨w.heap.size,0,none⟩=some (.string (B xd))/\wr.cell? ⟨w.heap.size,1,none⟩=some (.int .i64 xt)/\wr.cell? ⟨w.heap.size,2,none⟩=some (.int .i64 xa):=⟨by rw[cell_of_row _ _ _ _ _ _ b1];rfl,by rw[cell_of_row _ _ _ _ _ _ b1];rfl,by rw[cell_of_row _ _ _ _ _ _ b1];rfl⟩
 obtain⟨d0,d1,d2⟩:=b2;have WW:=zI (ef.1.then hR.fp);clear b1;by_cases ay:k<n
 ·have JX:k<l.length:=by rw[<-HX.1];exact ay
  obtain⟨g,o,aY,e,_,_,_,aq⟩:=HX.2.at (by omega)
  injection e with e1 e2 e3
  subst e1 e3;have aE:=(aq k JX).keep WW id;have q3:((k:Int)<(n:Int))=True:=eq_true (by omega)
  have q4:(k<n)=True:=eq_true ay
  have ou:=λ(e:l[k]≠⟨xd,xt,xa⟩) wr' (f:Fp ab wr wr')=>(show ZW l ⟨xd,xt,xa⟩ (w.alloc (.cells #[.string (B xd),.int .i64 xt,.int .i64 xa] dx)) (k+1) wr' from⟨hR.fp.then f,λj hj rJ=>by
   rcases Nat.lt_or_eq_of_le (show j<=k by omega) with e1|e1
   ·exact hR.no j hj e1
   subst e1;exact e⟩)
  have vQ:l[k]∈l:=List.getElem_mem JX;have vP:=zI (yI ou vQ);have HL:=zI ay;clear aq ou ay vQ;generalize l[k]=y at *;have c0:=aE.c0;have c1:=aE.c1;have c2:=aE.c2;unfold au at c0;clear aE JX;obtain⟨z,hz⟩:∃z:Hl,z=⟨xd,xt,xa⟩:=⟨_,rfl⟩;have he:=λw=>BM w ⟨xd,xt,xa⟩ y
  simp only at he
  by_cases MD:(⟨xd,xt,xa⟩:Hl)=y
  ·have q5:decide ((⟨xd,xt,xa⟩:Hl)=y)=true:=decide_eq_true MD
   simp only[q5]at he
   have hM:=zI MD;clear MD hz heq q5;go_wp2_with fail
   go_quiet (fail)
   go_wp2;go_ret
   exact⟨⟨_,rfl,by
             constructor
             ·intro _;rw[hM.out];exact vP.2
             intro _;omega⟩,WW.drewN _⟩
  have q5:decide ((⟨xd,xt,xa⟩:Hl)=y)=false:=decide_eq_false MD;simp only[q5]at he
  have hM:=zI (vP.1 (λe=>MD e.symm))
  have hj:=HL.out;clear MD hz heq q5;go_wp2_with fail
  go_quiet (fail)
  go_wp2;go_roundw
  case rel=>exact⟨k+1,by omega,by go_num,hM _ ((Fp.refl _ _).drewN _)⟩
  case measure=>simp[RowKit.intOf];omega
 have cV:k=n:=by omega
 subst cV;have q3:((k:Int)<(k:Int))=False:=eq_false (by omega)
 have HN:=zI (show(⟨xd,xt,xa⟩:Hl)∉l from λh=>by
  obtain⟨j,hj,e⟩:=List.getElem_of_mem h;exact hR.no j hj (by rw[HX.1];exact hj) e)
 clear ay hk;go_wp2;go_ret
 exact⟨⟨_,rfl,by
           constructor
           ·intro h;omega
           intro h;exact absurd h HN.out⟩,WW.out⟩
theorem uz(v:Value)(l:List Hl)(x:Hl)(w:World)(hv:di w v l)(hn:l.length<=1000000):
  Calls prog 130 #[v,lF x] w λe w'=>e=.returned (.bool (decide (x∈l)))/\Fp ab w w':=by
 have h1:=λW (f:Fp ab w W)=>CZ v l x W (hv.af f) hn
 obtain⟨xd,xt,xa⟩:=x;have f1:=aa w (.cells #[.string (B xd),.int .i64 xt,.int .i64 xa] dx);have fB:=heap_alloc_new w (.cells #[.string (B xd),.int .i64 xt,.int .i64 xa] dx);obtain⟨ao,cap,rfl⟩:=hv.shape;unfold lF au at h1|-;simp only at h1|-
 have d0:(w.alloc (.cells #[.string (B xd),.int .i64 xt,.int .i64 xa] dx)).cell? ⟨w.heap.size,0,none⟩=some (.string (B xd)):=by rw[cell_of_row _ _ _ _ _ _ fB];rfl
 have d1:(w.alloc (.cells #[.string (B xd),.int .i64 xt,.int .i64 xa] dx)).cell? ⟨w.heap.size,1,none⟩=some (.int .i64 xt):=by rw[cell_of_row _ _ _ _ _ _ fB];rfl
 have d2:(w.alloc (.cells #[.string (B xd),.int .i64 xt,.int .i64 xa] dx)).cell? ⟨w.heap.size,2,none⟩=some (.int .i64 xa):=by rw[cell_of_row _ _ _ _ _ _ fB];rfl
 obtain⟨b,hb⟩:∃b,decide ((⟨xd,xt,xa⟩:Hl)∈l)=b:=⟨_,rfl⟩;rw[hb];have HB:=zI hb;have H1:=zI (h1 _ f1);have HF:=zI f1;generalize l.length=n at *;clear h1 f1 fB hv hn hb;go_enter func130,ntmps130
 go_wp2_with fail
 refine H1.mono ?_;rintro e w1 hR;obtain⟨z,rfl,hz⟩:=hR.ex;have HZ:=zI (yI hz (HF.then hR.fp));clear hz hR d0 d1 d2;go_wp2;go_ret;refine⟨aB ?_,HZ.2⟩;rw[<-HB.out];exact decide_eq_decide.2 HZ.1
theorem FF(v:Value)(l:List Hl)(p:Bs)(w:World)(hv:di w v l)(hs:BK l)(hp:p.length<=1000000):
  Calls prog 131 #[v,.string (B p)] w λe w'=>qc w (ED l p) e w':=by
 have h1:=Fy v l p w hv hs hp;have wK:=λ(t:Int) W (f:Fp ab w W) (h:kT l)=>JW v l ⟨p,t,2⟩ W (hv.af f) h.up h.len
 unfold lF au at wK;simp only at wK
 have MB:=hs.n;cases ho:CX l p with
 |none=>
  have e:ED l p=none:=by unfold ED;rw[kC ho]
  rw[e];obtain⟨ao,cap,rfl⟩:=hv.shape;rw[ho]at h1;generalize l.length=n at *;have H1:=zI h1;clear h1 hv hs hp e ho MB wK;go_enter func131,ntmps131
  go_wp2_with fail
  refine H1.mono ?_;rintro e w1⟨rfl,hf⟩;have HF:=zI hf;clear hf;unfold idx;go_wp2;go_ret2
  exact qc.none HF.out
 |some k=>?_
 have hk:=uy ho;have C0:=(BN (mq ho)).1;have e:ED l p=if l[k].a=1 then mr l ⟨p,l[k].t,2⟩ else none:=by unfold ED;rw[mq ho]
 obtain⟨g,o,cap,rfl,_,_,_,aq⟩:=hv.at (by omega)
 have hc:=aq k hk;have wK:=wK l[k].t;rw[ho]at h1;obtain⟨n,hn⟩:∃n,n=l.length:=⟨_,rfl⟩;rw[<-hn]at h1 hk MB wK|-;obtain⟨x,hx⟩:∃x,x=l[k]:=⟨_,rfl⟩;rw[<-hx]at hc e wK;obtain⟨xd,xt,xa⟩:=x;have c1:=hc.c1;have c2:=hc.c2;simp only at c1 c2 e wK
 obtain⟨r,hr⟩:∃r,ED l p=r:=⟨_,rfl⟩;rw[hr]at e|-;have q1:((k:Int) == -1)=false:=beq_eq_false_iff_ne.2 (by omega)
 have q2:((k:Int)<(n:Int))=True:=eq_true (by omega)
 have q3:(k<n)=True:=eq_true hk;have q4:((k:Int) = -1)=False:=eq_false (by omega)
 have H1:=zI h1;have HC:=zI (yI c1 c2);have HE:=zI e;have HW:=zI (λW f=>wK W f C0)
 clear h1 hv hs hp e ho aq hn hk hc wK C0 hx hr c1 c2;go_enter func131,ntmps131
 go_wp2_with fail
 refine H1.mono ?_;rintro e w1⟨rfl,hf⟩;have HF:=zI hf;have c1:=hf.cell HC.1 id;have c2:=hf.cell HC.2 id;clear hf;unfold idx;by_cases ha:xa=1
 ·subst ha
  go_wp2_with fail
  refine(HW _ HF.out).mono ?_;rintro e w2 hW;obtain⟨v2,rfl,hN⟩:=hW.ex;have HR:=zI (yI hN (HF.then hW.fp));clear hW hN;go_wp2;go_ret2
  rw[HE.out,if_pos (by trivial)]
  exact⟨⟨_,rfl,HR.1⟩,HR.2⟩
 have q5:(xa == 1)=false:=beq_eq_false_iff_ne.2 ha;have q6:(xa=1)=False:=eq_false ha;have q7:(xa != 1)=true:=by simp[bne,q5]
 clear ha;go_wp2;go_ret2
 rw[HE.out,if_neg (by rw[q6];exact λh=>h)]
 exact qc.none HF.out
def kept(p:Bs):Bs:=(parent p).getD [47]
def jZ(m:List Hl)(pre d:Bs):Bool:=match (bk m d m.length).bind (m[·]?) with|some x=>x.d == pre|none=>false
end
section
open Pm
namespace Pm
open Go.Proofs.Tryz
structure ck where
 err:Int
 idx:Nat
 yes:Bool
 ep:Int
 res:List dp
 st:St
 cW:List Ev
 JY:List Int
def ck.ok:ck:=⟨0,0,false,0,[],⟨[],[]⟩,[],[]⟩
def ck.no(e:Int):ck:=⟨e,0,false,0,[],⟨[],[]⟩,[],[]⟩
structure JZ where
 fin:Bool
 ps:List Pt
 a:ck
structure bQ where
 st:St
 rg:List Hl
 hs:List Hl
 wd:Wd
 ids:List (Int×ck)
 dI:List (Int×JZ)
 ds:List (Int×Bool×Int)
def lk{α:Type}(l:List (Int×α))(k:Int):Option α:=(l.find? (λx=>x.1 == k)).map Prod.snd
def oR{α:Type}(l:List (Int×α))(k:Int)(v:α):List (Int×α):=if (lk l k).isSome=true then l.map (λx=>if x.1=k then (k,v) else x) else l++[(k,v)]
def ox:St->List dp->Nat->List Pt->(St×List dp) ⊕ (Int×Nat)
 |now,rs,_,[]=>.inl (now,rs)
 |now,rs,i,p::r=>if (b7 now p).2.err=0 then ox (b7 now p).1 (rs++[(b7 now p).2]) (i+1) r else .inr ((b7 now p).2.err,i)
def ik(s:St)(ps:List Pt):St×ck:=match ox s [] 0 ps with
 |.inl x=>(x.1,{ ck.ok with res:=x.2 })
 |.inr x=>(s,{ ck.no x.1 with idx:=x.2 })
def iJ(d:Wd)(k:Int)(p:Bs):Wd:=if (gW d k p).2=0 then (gW d k p).1 else d
def eC(d:Wd)(x:Pt)(r:dp):Wd:=
 if x.kind=2 then iJ d 1 r.path else if x.kind=3 then iJ d 2 x.path else if x.kind=5 then iJ d 3 x.path
 else if x.kind=10 then r.names.foldl (λd n=>iJ d 2 ((join x.path n).getD [])) d else d
def N8(d:Wd)(ps:List Pt)(rs:List dp):Wd:=(ps.zip rs).foldl (λd x=>eC d x.1 x.2) d
def fZ(h:bQ)(ps:List Pt):bQ×ck:=match ox h.st [] 0 ps with
 |.inl x=>({ h with st:=x.1,wd:=N8 h.wd ps x.2 },{ ck.ok with res:=x.2 })
 |.inr x=>(h,{ ck.no x.1 with idx:=x.2 })
def bI(ps:List Pt):List Bs:=gG (ps.map Pt.dir)
def qd(l:List Hl)(a:Int)(d:Bs):Bool:=decide (N1 l d=a)
def FG(l:List Hl)(d:Bs):Bool:=(mu l d).isSome
def oS(h:bQ)(ps:List Pt):bQ×ck:=
 if (bI ps).any (qd h.rg 3)=true then (h,.no 132)
 else if (bI ps).any (qd h.rg 2)=true\/(bI ps).any (FG h.hs)=true then (h,.no 131)
 else fZ h ps
def eD(h:bQ)(t a:Int)(ps:List Pt):bQ×ck:=match lk h.dI t with
 |some x=>(h,if x.fin=true then .no 133 else x.a)
 |none=>
  if (bI ps).any (qd h.rg 3)=true then (h,.no 132)
  else if (bI ps).any (qd h.rg 2)=true then (h,.no 131)
  else if h.dI.length=128 then (h,.no 2)
  else if (eE h.hs t a (bI ps)).2.2=false then (h,{ ck.no 131 with JY:=(eE h.hs t a (bI ps)).2.1 })
  else ({ h with hs:=(eE h.hs t a (bI ps)).1,dI:=h.dI++[(t,⟨false,ps,{ (ik h.st ps).2 with yes:=decide ((ik h.st ps).2.err=0) }⟩)] },
   { (ik h.st ps).2 with yes:=decide ((ik h.st ps).2.err=0) })
def gH(h:bQ)(t:Int):bQ:={ h with dI:=oR h.dI t ⟨true,[],.ok⟩,hs:=mw h.hs t }
def il(h:bQ)(t:Int)(yes:Bool):bQ×ck:=match lk h.dI t with
 |none=>if yes=true then (h,.no 62) else if h.dI.length=128 then (h,.no 2) else (gH h t,.ok)
 |some x=>if x.fin=true then (h,.ok) else if yes=true/\x.a.yes=true then ((fZ (gH h t) x.ps).1,.ok) else (gH h t,.ok)
def oT(h:bQ)(t:Int)(yes:Bool)(ep:Int):bQ×ck:=match lk h.ds t with
 |some x=>(h,{ ck.ok with yes:=x.1,ep:=x.2 })
 |none=>if h.ds.length=128 then (h,.no 2) else ({ h with ds:=h.ds++[(t,yes,ep)] },{ ck.ok with yes:=yes,ep:=ep })
def qe(l:List Hl)(d:Bs):Bs:=((pick l d).map Hl.d).getD []
def jJ(s:St)(l:List Hl)(pre:Bs):St:=⟨s.nodes.filter (λn=>jZ l pre (kept n.path)),s.turns.filter (λt=>jZ l pre t.dir)⟩
def Ru(s:St)(l:List Hl)(pre:Bs):St:=⟨s.nodes.filter (λn=>!jZ l pre (kept n.path)),s.turns.filter (λt=>!jZ l pre t.dir)⟩
def zy(h:bQ)(pre:Bs)(ep:Int):bQ×ck:=(h,{ ck.ok with ep:=ep,st:=jJ h.st h.rg pre })
def jf(h:bQ)(pre:Bs)(ep:Int):bQ×ck:=
 if pre=[] then (h,.no 1)
 else if (⟨pre,ep,2⟩:Hl)∈h.rg then zy h pre ep
 else match ED h.rg pre with
  |none=>(h,.no 132)
  |some now=>if (⟨pre,ep,2⟩:Hl)∉now then (h,.no 133)
   else if h.hs.any (λx=>decide (qe now x.d=pre))=true then (h,.no 131)
   else zy { h with rg:=now } pre ep
def Rv(l:List Hl)(p:Bs):Option Hl:=l.find? (λx=>decide (x.d=p))
def sX(l:List Hl)(ps:List Bs):List Hl:=ps.foldl (λl p=>if (Rv l p).isSome=true then l else l++[⟨p,0,3⟩]) l
def sY(l:List Hl):List Hl:=l.mergeSort (λa b=>!lt b.d a.d)
def WX(a b:St):St:=⟨(a.nodes++b.nodes).mergeSort (λx y=>!lt y.path x.path),(a.turns++b.turns).mergeSort (λx y=>!lt y.dir x.dir)⟩
def ME(h:bQ)(pre:Bs)(ep:Int)(s:St)(gone:List Bs):bQ×ck:=
 if pre=[] then (h,.no 1)
 else if (match Rv h.rg pre with|some r=>decide (ep<=r.t)|none=>false)=true then (h,.ok)
 else match inst h.rg pre ep with
  |none=>(h,.no 2)
  |some m=>if 32<(sY (sX m gone)).length then (h,.no 2)
   else if h.hs.any (λx=>decide (qe (sY (sX m gone)) x.d=pre)||decide (qe (sY (sX m gone)) x.d≠qe h.rg x.d))=true then (h,.no 131)
   else ({ h with rg:=sY (sX m gone),st:=WX (Ru h.st (sY (sX m gone)) pre) (jJ s (sY (sX m gone)) pre) },.ok)
def Ry(h:bQ)(pre:Bs)(ep:Int):bQ×ck:=
 if pre=[] then (h,.no 1)
 else match drp h.rg pre ep with
  |none=>(h,.ok)
  |some m=>({ h with rg:=m,st:=Ru h.st h.rg pre },.ok)
def nE(h:bQ)(d:Wd)(e:Int):bQ×ck:=if e=0 then ({ h with wd:=d },.ok) else (h,.no e)
def WY(h:bQ)(x:Wt):bQ×ck:=nE h (Rz h.wd x).1 (Rz h.wd x).2
def WZ(h:bQ)(s n:Int):bQ×ck:=nE h (FH h.wd s n).1 (FH h.wd s n).2
def Xa(h:bQ)(s n:Int):bQ×ck:=((nE h (wL h.wd s n).1 (wL h.wd s n).2.2).1,{ (nE h (wL h.wd s n).1 (wL h.wd s n).2.2).2 with cW:=(wL h.wd s n).2.1 })
def bn(h:bQ)(c:Cd):bQ×ck:=
 if c.kind=1 then oS h (c.ps.map Pe.p) else if c.kind=2 then eD h c.bu c.gX (c.ps.map Pe.p) else if c.kind=3 then il h c.bu c.yes
 else if c.kind=4 then oT h c.bu c.yes c.ep else if c.kind=5 then jf h c.pre c.ep else if c.kind=6 then ME h c.pre c.ep c.st c.gone
 else if c.kind=7 then Ry h c.pre c.ep else if c.kind=8 then WY h ⟨c.ws,c.wn,c.wp,c.deep⟩ else if c.kind=9 then WZ h c.ws c.wn else Xa h c.ws c.ep
def sZ(k:Int):Bool:=decide (k=1\/k=8\/k=9\/k=10)
def fK(h:bQ)(c:Cd):bQ×ck:=match lk h.ids c.id with
 |some a=>(h,a)
 |none=>if h.ids.length=512 then (h,.no 2) else
  if (bn h c).2.err≠131/\(bn h c).2.err≠132 then ({ (bn h c).1 with ids:=(bn h c).1.ids++[(c.id,(bn h c).2)] },(bn h c).2) else bn h c
open Classical in
noncomputable def zD(h:bQ)(c:Cd):bQ×ck:=if im c=true/\c.kind<11 then (if c.id=0\/sZ c.kind=false then bn h c else fK h c) else (h,.no 1)
theorem s9{h:bQ}{c:Cd}(hc:im c=true)(hk:c.kind<11):zD h c=if c.id=0\/sZ c.kind=false then bn h c else fK h c:=by
 unfold zD;rw[if_pos ⟨hc,hk⟩]
theorem uA{α:Type}{l:List (Int×α)}{k:Int}{a:α}(h:lk l k=some a):(k,a)∈l:=by
 unfold lk at h;rw[Option.map_eq_some_iff]at h;obtain⟨x,hx,rfl⟩:=h;have h1:=List.find?_some hx;have h2:=List.mem_of_find?_eq_some hx;simp only[beq_iff_eq]at h1
 rw[<-h1];exact h2
theorem Oa{α:Type}{l:List (Int×α)}{k:Int}(h:lk l k=none)(v:α)(j:Int):lk (l++[(k,v)]) j=if j=k then some v else lk l j:=by
 unfold lk at h|-;rw[List.find?_append];by_cases e:j=k
 ·subst e
  rw[Option.map_eq_none_iff]at h;rw[h,if_pos rfl];simp
 rw[if_neg e];cases hl:l.find? (λx=>x.1 == j) with
 |some x=>rfl
 |none=>?_
 have e2:¬k=j:=λx=>e x.symm
 simp[e2]
theorem BO(now:St)(rs:List dp)(i:Nat)(a b:List Pt):ox now rs i (a++b)=match ox now rs i a with|.inl x=>ox x.1 x.2 (i+a.length) b|.inr x=>.inr x:=by
 induction a generalizing now rs i with
 |nil=>rfl
 |cons p a ih=>
  simp only[List.cons_append,ox]
  split
  ·rw[ih,List.length_cons,Nat.add_assoc,Nat.add_comm 1]
  rfl
theorem J0{now x:St}{rs q:List dp}{i:Nat}{ps:List Pt}(h:ox now rs i ps=.inl (x,q)):q.length=rs.length+ps.length:=by
 induction ps generalizing now rs i with
 |nil=>simp only[ox,Sum.inl.injEq,Prod.mk.injEq]at h;rw[<-h.2];rfl
 |cons p r ih=>
  simp only[ox]at h
  split at h
  ·have:=ih h
   rw[this];simp;omega
  cases h
theorem wM{s now:St}{ps:List Pt}{k:Nat}{rs:List dp}(hs:dh s)(hp:∀p∈ps,cq p=true)(h:iK s ps k now rs):dh now/\ox s [] 0 (ps.take k)=.inl (now,rs):=by
 induction h with
 |zero=>exact⟨hs,rfl⟩
 |succ h hk ha h0 ih=>
  obtain⟨h1,h2⟩:=ih;have hm:=hp _ (List.getElem_mem hk);rw[jg h1 hm]at ha;have e:=congrArg Prod.fst ha;have e2:=congrArg Prod.snd ha;simp only at e e2
  refine⟨?_,?_⟩
  ·rw[<-e];exact h1.b7 hm
  rw[List.take_succ_eq_append_getElem hk,BO,h2];simp only[ox]
  rw[e2,if_pos h0,e]
theorem C6{now:St}{rs:List dp}{i:Nat}{ps:List Pt}(hs:dh now)(hp:∀p∈ps,cq p=true){x:St×List dp}(h:ox now rs i ps=.inl x):dh x.1:=by
 induction ps generalizing now rs i with
 |nil=>simp only[ox,Sum.inl.injEq]at h;rw[<-h];exact hs
 |cons p r ih=>
  simp only[ox]at h
  split at h
  ·exact ih (hs.b7 (hp p (by simp))) (λq hq=>hp q (by simp[hq])) h
  cases h
end Pm
end
end Go.Proofs.YtgafcelloiagmaaGreatDoor
