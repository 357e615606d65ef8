/- A text of this proof. -/
import Derived.RangeFuncNested
import Derived.Test.YtgafcelloiagmaaGreatDoorZCU
set_option maxHeartbeats 16000000
set_option linter.unusedSimpArgs false
set_option linter.unusedVariables false
set_option maxRecDepth 20000
namespace Go.Proofs.YtgafcelloiagmaaGreatDoor
open Go.Proofs.Tryz
open Go.RowKit Pm
structure pA(K:List Bs)(p:Bs)(w:World)(i j:Nat)(wr:World):Prop where
 fp:Fp ab w wr
 lo:∀x (h:x<K.length),x<i->lt K[x] p=true
 hi:∀x (h:x<K.length),j<=x->lt K[x] p=false
 ij:i<=j
 jn:j<=K.length
theorem Up.at{K:List Bs}(h:Up K){i j:Nat}(hi:i<K.length)(hj:j<K.length)(jR:i<j):lt K[i] K[j]=true:=List.pairwise_iff_getElem.1 h i j hi hj jR
theorem pA.below{K:List Bs}{p:Bs}{w wr w':World}{i j h:Nat}(hM:pA K p w i j wr)(hu:Up K)(hh:h<K.length)(h1:i<=h)(h2:h<j)(c:lt K[h] p=true)(f:Fp ab wr w'):pA K p w (h+1) j w':=
 ⟨hM.fp.then f,λx hx B1=>by
  rcases Nat.lt_or_eq_of_le (show x<=h by omega) with e|e
  ·exact lt_trans (Up.at hu hx hh e) c
  subst e;exact c,hM.hi,by omega,hM.jn⟩
theorem pA.CM{K:List Bs}{p:Bs}{w wr w':World}{i j h:Nat}(hM:pA K p w i j wr)(hu:Up K)(hh:h<K.length)(h1:i<=h)(h2:h<j)(c:lt K[h] p=false)(f:Fp ab wr w'):pA K p w i h w':=
 ⟨hM.fp.then f,hM.lo,λx hx B1=>by
  rcases Nat.lt_or_eq_of_le B1 with e|e
  ·cases d:lt K[x] p with
   |false=>rfl
   |true=>rw[lt_trans (Up.at hu hh hx e) d]at c;cases c
  subst e;exact c,by omega,by have:=hM.jn;omega⟩
theorem pA.mem{K:List Bs}{p:Bs}{w wr:World}{i:Nat}(hM:pA K p w i i wr)(hu:Up K):p∈K↔∃h:i<K.length,K[i]=p:=by
 constructor
 ·intro hp
  obtain⟨x,hx,e⟩:=List.getElem_of_mem hp;rcases Nat.lt_trichotomy x i with h|h|h
  ·have:=hM.lo x hx h;rw[e,lt_irrefl]at this;cases this
  ·subst h;exact⟨hx,e⟩
  have h1:=Up.at hu (Nat.lt_trans h hx) hx h;have h2:=hM.hi i (Nat.lt_trans h hx) (Nat.le_refl _);rw[e,h2]at h1;cases h1
 rintro⟨h,rfl⟩;exact List.getElem_mem h
theorem Da(v:Value)(l:List Bs)(p:Bs)(w:World)(hv:uC w v l)(ha:Up l)(hn:l.length<=1000000):
  Calls prog 243 #[v,.string (B p)] w λe w'=>(∃z:Int,e=.returned (.tuple #[.int .i64 z,.bool (decide (p∈l))]))/\Fp ab w w':=by
 obtain⟨ao,cap,rfl⟩:=hv.shape;obtain⟨n,aR⟩:∃n,n=l.length:=⟨_,rfl⟩;have GN:(l).length=n:=by rw[aR]
 have HX:=zI (yI aR (yI hv (yI ha GN)));have H0:Hid (pA (l) p w 0 n w):=⟨Fp.refl _ _,λx _ h=>absurd h (Nat.not_lt_zero x),λx h1 h2=>by omega,Nat.zero_le _,by omega⟩
 rw[<-aR];have jS:n<=1000000:=by omega
 clear hv ha hn aR GN;go_enter func243,ntmps243
 go_wp2_with fail
 go_loopw [7,8] (λi j wr=>∃a b:Nat,a<=n/\b<=n/\i=.int .i64 a/\j=.int .i64 b/\Hid (pA (l) p w a b wr)) (λi j _=>(RowKit.intOf j).toNat-(RowKit.intOf i).toNat)
 case atStart=>exact⟨0,n,Nat.zero_le _,Nat.le_refl _,rfl,rfl,H0⟩
 clear H0;obtain⟨a,b,iQ,mC,rfl,rfl,hR⟩:=hrel;rename_i wr _
 by_cases ay:a<b
 ·obtain⟨h,hh⟩:∃h,h=(a+b) / 2:=⟨_,rfl⟩
  have eV:a<=h/\h<b:=by omega
  have he:((a:Int)+(b:Int)) / 2=(h:Int):=by omega
  have kV:h<l.length:=by rw[<-HX.1];omega
  have sP:h<(l).length:=by rw[HX.2.2.2];omega
  have q5:(h<n)=True:=eq_true (by omega)
  have q6:((h:Int)<(n:Int))=True:=eq_true (by omega)
  obtain⟨g,o,aY,e,aq⟩:=HX.2.1.dI (by omega)
  injection e with e1 e2 e3
  subst e1 e3;have pG:=λc w' f=>hR.below (w':=w') HX.2.2.1 sP eV.1 eV.2 c f
  have eR:=λc w' f=>hR.CM (w':=w') HX.2.2.1 sP eV.1 eV.2 c f
  have wo:=hR.fp.cell (aq h kV) id;obtain⟨y,hy⟩:∃y,y=l[h]:=⟨_,rfl⟩;rw[<-hy]at pG eR wo;clear hy;have HB:=zI (yI pG eR);have HA:=zI (yI eV (yI iQ mC));clear aq pG eR hh iQ mC;skip
  have q3:((a:Int)<(b:Int))=True:=eq_true (by omega)
  have q4:(a<b)=True:=eq_true ay;have Sc:h<=1000000:=by have:=HA.out;omega
  clear kV sP ay eV;cases bq:lt y p with
  |true=>
   go_wp2_with fail
   refine(Jd _ _ _).mono ?_;rintro e w2⟨rfl,rfl⟩;simp only[bq]
   have hM:=zI (HB.1 bq _ (Fp.refl _ _));clear bq;go_wp2;go_roundw
   case rel=>exact⟨h+1,b,by have:=HA.out;omega,HA.2.2,by go_num,rfl,hM⟩
   case measure=>have:=HA.out;simp[RowKit.intOf];omega
  |false=>?_
  go_wp2_with fail
  refine(Jd _ _ _).mono ?_;rintro e w2⟨rfl,rfl⟩;simp only[bq]
  have hM:=zI (HB.2 bq _ (Fp.refl _ _));clear bq;go_wp2;go_roundw
  case rel=>exact⟨a,h,HA.2.1,by have:=HA.out;omega,rfl,rfl,hM⟩
  case measure=>have:=HA.out;simp[RowKit.intOf];omega
 have eV:a=b:=by have:=hR.ij;omega
 subst eV;have vQ:=hR.mem HX.2.2.1;have q3:((a:Int)<(a:Int))=False:=eq_false (by omega)
 by_cases gm:a<n
 ·have kV:a<l.length:=by rw[<-HX.1];exact gm
  have sP:a<(l).length:=by rw[HX.2.2.2];exact gm
  obtain⟨g,o,aY,e,aq⟩:=HX.2.1.dI (by omega)
  injection e with e1 e2 e3
  subst e1 e3
  have bf:∀y,(l)[a]=y->decide (p∈l)=decide (y=p):=λy hy=>by
   rw[Bool.eq_iff_iff,decide_eq_true_eq,decide_eq_true_eq,vQ];exact⟨λ⟨_,h⟩=>by rw[<-hy];exact h,λh=>⟨sP,by rw[hy];exact h⟩⟩
  have wo:=hR.fp.cell (aq a kV) id;obtain⟨y,hy⟩:∃y,y=l[a]:=⟨_,rfl⟩;rw[<-hy]at wo;have NI:=bf y hy.symm;have q5:((a:Int)<(n:Int))=True:=eq_true (by omega)
  have q6:(a<n)=True:=eq_true gm;have HZ:=zI NI;clear hy vQ NI bf gm aq iQ mC kV sP ay;by_cases hyp:y=p
  ·have q7:(y == p)=true:=beq_iff_eq.2 hyp
   have HY:=zI hyp;clear hyp;go_wp2;go_ret2
   exact⟨⟨_,by rw[HZ.out,decide_eq_true HY.out];rfl⟩,hR.fp⟩
  have q7:(y == p)=false:=beq_eq_false_iff_ne.2 hyp;have HY:=zI hyp;clear hyp;go_wp2_with fail
  refine(Jc _ _).mono ?_;rintro e w2⟨rfl,rfl⟩;go_wp2;go_ret2
  exact⟨⟨_,by rw[HZ.out,decide_eq_false HY.out];rfl⟩,hR.fp⟩
 have q5:((a:Int)<(n:Int))=False:=eq_false (by omega)
 have q6:(a<n)=False:=eq_false gm
 have cP:decide (p∈l)=false:=decide_eq_false (λh=>by
  obtain⟨h1,_⟩:=vQ.1 h;rw[HX.2.2.2]at h1;exact gm h1)
 have EG:=zI cP;clear vQ gm ay iQ mC cP;go_wp2;go_ret2
 exact⟨⟨_,by rw[EG.out];rfl⟩,hR.fp⟩
theorem nZ(n:Hl)(p:Bs)(w:World):
  Calls prog 295 #[lF n,.string (B p)] w λe w'=>e=.returned (.int .i64 (cF n.d p))/\Fp ab w w':=by
 obtain⟨d,t,a⟩:=n;unfold lF au;have hf:∀o,Fp ab w (w.alloc o):=λo=>(Fp.refl ab w).alloc o
 have HF:=zI hf;clear hf;go_enter func295,ntmps295
 go_wp2_with fail
 refine(qf _ _ _).mono ?_;rintro e w1⟨rfl,rfl⟩;go_wp2;go_ret;exact⟨rfl,HF _⟩
theorem EA(v:Value)(l:List Hl)(p:Bs)(w:World)(hv:di w v l)(ha:Up (l.map Hl.d))(hn:l.length<=1000000):
  Calls prog 294 #[v,.string (B p),.func (.func 295) #[] #[]] w λe w'=>(∃z:Int,e=.returned (.tuple #[.int .i64 z,.bool (decide (p∈l.map Hl.d))]))/\Fp ab w w':=by
 obtain⟨ao,cap,rfl⟩:=hv.shape;obtain⟨n,aR⟩:∃n,n=l.length:=⟨_,rfl⟩;have GN:(l.map Hl.d).length=n:=by rw[aR,List.length_map]
 have HX:=zI (yI aR (yI hv (yI ha GN)));have H0:Hid (pA (l.map Hl.d) p w 0 n w):=⟨Fp.refl _ _,λx _ h=>absurd h (Nat.not_lt_zero x),λx h1 h2=>by omega,Nat.zero_le _,by omega⟩
 rw[<-aR];have jS:n<=1000000:=by omega
 clear hv ha hn aR GN;go_enter func294,ntmps294
 go_wp2_with fail
 go_loopw [9,10] (λi j wr=>∃a b:Nat,a<=n/\b<=n/\i=.int .i64 a/\j=.int .i64 b/\Hid (pA (l.map Hl.d) p w a b wr)) (λi j _=>(RowKit.intOf j).toNat-(RowKit.intOf i).toNat)
 case atStart=>exact⟨0,n,Nat.zero_le _,Nat.le_refl _,rfl,rfl,H0⟩
 clear H0;obtain⟨a,b,iQ,mC,rfl,rfl,hR⟩:=hrel;rename_i wr _
 by_cases ay:a<b
 ·obtain⟨h,hh⟩:∃h,h=(a+b) / 2:=⟨_,rfl⟩
  have eV:a<=h/\h<b:=by omega
  have he:((a:Int)+(b:Int)) / 2=(h:Int):=by omega
  have kV:h<l.length:=by rw[<-HX.1];omega
  have sP:h<(l.map Hl.d).length:=by rw[HX.2.2.2];omega
  have q5:(h<n)=True:=eq_true (by omega)
  have q6:((h:Int)<(n:Int))=True:=eq_true (by omega)
  obtain⟨g,o,aY,e,_,_,_,aq⟩:=HX.2.1.at (by omega)
  injection e with e1 e2 e3
  subst e1 e3;have pG:=λc w' f=>hR.below (w':=w') HX.2.2.1 sP eV.1 eV.2 c f
  have eR:=λc w' f=>hR.CM (w':=w') HX.2.2.1 sP eV.1 eV.2 c f
  have aE:=(aq h kV).keep hR.fp id;simp only[List.getElem_map]at pG eR
  obtain⟨x,hx⟩:∃x,x=l[h]:=⟨_,rfl⟩;rw[<-hx]at pG eR aE;clear hx;obtain⟨y,xt,xa⟩:=x;have c0:=aE.c0;have c1:=aE.c1;have c2:=aE.c2;unfold au at c0;simp only at c0 c1 c2 pG eR
  clear aE;have HB:=zI (yI pG eR);have HA:=zI (yI eV (yI iQ mC));clear aq pG eR hh iQ mC;skip
  have q3:((a:Int)<(b:Int))=True:=eq_true (by omega)
  have q4:(a<b)=True:=eq_true ay;have Sc:h<=1000000:=by have:=HA.out;omega
  clear kV sP ay eV;cases bq:lt y p with
  |true=>
   have z0:(cF y p<0)=True:=eq_true (by unfold cF;rw[if_pos bq];decide)
   go_wp2_with fail
   refine(nZ ⟨y,xt,xa⟩ _ _).mono ?_;rintro e w2⟨rfl,bY⟩;simp only
   have hM:=zI (HB.1 bq _ bY);clear bq;go_wp2;go_roundw
   case rel=>exact⟨h+1,b,by have:=HA.out;omega,HA.2.2,by go_num,rfl,hM⟩
   case measure=>have:=HA.out;simp[RowKit.intOf];omega
  |false=>?_
  have z0:(cF y p<0)=False:=eq_false (by unfold cF;rw[if_neg (by rw[bq];exact Bool.false_ne_true)];split<;>decide)
  go_wp2_with fail
  refine(nZ ⟨y,xt,xa⟩ _ _).mono ?_;rintro e w2⟨rfl,bY⟩;simp only
  have hM:=zI (HB.2 bq _ bY);clear bq;go_wp2;go_roundw
  case rel=>exact⟨a,h,HA.2.1,by have:=HA.out;omega,rfl,rfl,hM⟩
  case measure=>have:=HA.out;simp[RowKit.intOf];omega
 have eV:a=b:=by have:=hR.ij;omega
 subst eV;have vQ:=hR.mem HX.2.2.1;have q3:((a:Int)<(a:Int))=False:=eq_false (by omega)
 by_cases gm:a<n
 ·have kV:a<l.length:=by rw[<-HX.1];exact gm
  have sP:a<(l.map Hl.d).length:=by rw[HX.2.2.2];exact gm
  obtain⟨g,o,aY,e,_,_,_,aq⟩:=HX.2.1.at (by omega)
  injection e with e1 e2 e3
  subst e1 e3
  have bf:∀y,(l.map Hl.d)[a]=y->decide (p∈l.map Hl.d)=decide (y=p):=λy hy=>by
   rw[Bool.eq_iff_iff,decide_eq_true_eq,decide_eq_true_eq,vQ];exact⟨λ⟨_,h⟩=>by rw[<-hy];exact h,λh=>⟨sP,by rw[hy];exact h⟩⟩
  have aE:=(aq a kV).keep hR.fp id;obtain⟨x,hx⟩:∃x,x=l[a]:=⟨_,rfl⟩;rw[<-hx]at aE;have Mp:(l.map Hl.d)[a]=x.d:=by rw[List.getElem_map,<-hx]
  clear hx;obtain⟨y,xt,xa⟩:=x;have c0:=aE.c0;have c1:=aE.c1;have c2:=aE.c2;unfold au at c0;simp only at c0 c1 c2 Mp
  clear aE;have NI:=bf _ Mp;have q5:((a:Int)<(n:Int))=True:=eq_true (by omega)
  have q6:(a<n)=True:=eq_true gm;have l6:=hR.hi a sP (Nat.le_refl _);rw[Mp]at l6
  have B2:(cF y p == 0)=decide (y=p):=by
   unfold cF;rw[if_neg (by rw[l6];exact Bool.false_ne_true)]
   by_cases e:y=p
   ·rw[if_pos e,decide_eq_true e];rfl
   rw[if_neg e,decide_eq_false e];rfl
  have HZ:=zI (yI NI B2);clear vQ NI bf gm aq iQ mC kV sP ay l6 B2 Mp;go_wp2_with fail
  refine(nZ ⟨y,xt,xa⟩ _ _).mono ?_;rintro e w2⟨rfl,bY⟩;have HF:=zI (hR.fp.then bY);clear bY;simp only
  go_wp2;go_ret2
  exact⟨⟨_,by rw[HZ.1,<-HZ.2];rfl⟩,HF.out⟩
 have q5:((a:Int)<(n:Int))=False:=eq_false (by omega)
 have q6:(a<n)=False:=eq_false gm
 have cP:decide (p∈l.map Hl.d)=false:=decide_eq_false (λh=>by
  obtain⟨h1,_⟩:=vQ.1 h;rw[HX.2.2.2]at h1;exact gm h1)
 have EG:=zI cP;clear vQ gm ay iQ mC cP;go_wp2;go_ret2
 exact⟨⟨_,by rw[EG.out];rfl⟩,hR.fp⟩
theorem FR(v:Value)(l:List Hl)(p:Bs)(w:World)(hv:di w v l)(ha:Up (l.map Hl.d))(hn:l.length<=1000000):
  Calls prog 248 #[v,.string (B p)] w λe w'=>(∃z:Int,e=.returned (.tuple #[.int .i64 z,.bool (decide (p∈l.map Hl.d))]))/\Fp ab w w':=by
 have hs:=EA v l p w hv ha hn;obtain⟨ao,cap,rfl⟩:=hv.shape;generalize decide (p∈l.map Hl.d)=b at *;generalize l.length=n at *;have HS:=zI hs;clear hs hv hn ha;go_enter func248,ntmps248
 go_wp2_with fail
 refine HS.mono ?_;rintro e w1⟨⟨z,rfl⟩,hf⟩;have HF:=zI hf;clear hf;go_wp2;go_ret2
 exact⟨⟨_,rfl⟩,HF.out⟩
theorem BA(a b:Bs)(w:World):Calls prog 198 #[.string (B a),.string (B b)] w λe w'=>e=.returned (.int .i64 (cF a b))/\w'=w:=by
 cases h1:lt a b with
 |true=>
  have e:cF a b = -1:=by unfold cF;rw[if_pos h1]
  rw[e];have q1:Op.bytesLess a b=true:=h1;clear e h1;go_enter func198,ntmps198
  go_wp2_with fail
  refine(cU _ _).mono ?_;rintro e w1⟨rfl,rfl⟩;go_wp2_with fail
  refine(cU _ _).mono ?_;rintro e w1⟨rfl,rfl⟩;go_wp2;go_ret;exact⟨rfl,rfl⟩
 |false=>?_
 have q1:Op.bytesLess a b=false:=h1;by_cases h2:a=b
 ·subst h2
  have e:cF a a=0:=by unfold cF;rw[if_neg (by rw[h1];exact Bool.false_ne_true),if_pos rfl]
  rw[e];have q2:(a == a)=true:=beq_self_eq_true a;clear e h1;go_enter func198,ntmps198
  go_wp2_with fail
  refine(cU _ _).mono ?_;rintro e w1⟨rfl,rfl⟩;go_wp2_with fail
  refine(cU _ _).mono ?_;rintro e w1⟨rfl,rfl⟩;go_wp2;go_ret;exact⟨rfl,rfl⟩
 have e:cF a b=1:=by unfold cF;rw[if_neg (by rw[h1];exact Bool.false_ne_true),if_neg h2]
 rw[e];have q2:(a == b)=false:=beq_eq_false_iff_ne.2 h2;clear e h1 h2;go_enter func198,ntmps198
 go_wp2_with fail
 refine(cU _ _).mono ?_;rintro e w1⟨rfl,rfl⟩;go_wp2_with fail
 refine(cU _ _).mono ?_;rintro e w1⟨rfl,rfl⟩;go_wp2;go_ret;exact⟨rfl,rfl⟩
structure yP(K:List Bs)(p:Bs)(w:World)(i j:Nat)(wr:World):Prop where
 fp:Fp ab w wr
 lo:∀x (h:x<K.length),x<i->lt K[x] p=true
 hi:∀x (h:x<K.length),j<=x->lt K[x] p=false
 ij:i<=j
 jn:j<=K.length
theorem yP.below{K:List Bs}{p:Bs}{w wr w':World}{i j h:Nat}(hM:yP K p w i j wr)(hu:Up K)(hh:h<K.length)(h1:i<=h)(h2:h<j)(c:lt K[h] p=true)(f:Fp ab wr w'):yP K p w (h+1) j w':=
 ⟨hM.fp.then f,λx hx B1=>by
  rcases Nat.lt_or_eq_of_le (show x<=h by omega) with e|e
  ·exact lt_trans (Up.at hu hx hh e) c
  subst e;exact c,hM.hi,by omega,hM.jn⟩
theorem yP.CM{K:List Bs}{p:Bs}{w wr w':World}{i j h:Nat}(hM:yP K p w i j wr)(hu:Up K)(hh:h<K.length)(h1:i<=h)(h2:h<j)(c:lt K[h] p=false)(f:Fp ab wr w'):yP K p w i h w':=
 ⟨hM.fp.then f,hM.lo,λx hx B1=>by
  rcases Nat.lt_or_eq_of_le B1 with e|e
  ·cases d:lt K[x] p with
   |false=>rfl
   |true=>rw[lt_trans (Up.at hu hh hx e) d]at c;cases c
  subst e;exact c,by omega,by have:=hM.jn;omega⟩
theorem l5(n:Hl)(p:Bs)(w:World):
  Calls prog 253 #[lF n,.string (B p)] w λe w'=>e=.returned (.int .i64 (cF n.d p))/\Fp ab w w':=by
 obtain⟨d,t,a⟩:=n;unfold lF au;have hf:∀o,Fp ab w (w.alloc o):=λo=>(Fp.refl ab w).alloc o
 have HF:=zI hf;clear hf;go_enter func253,ntmps253
 go_wp2_with fail
 refine(BA _ _ _).mono ?_;rintro e w1⟨rfl,rfl⟩;go_wp2;go_ret;exact⟨rfl,HF _⟩
theorem BB(v:Value)(l:List Hl)(p:Bs)(w:World)(hv:di w v l)(Mq:kB l)(hn:l.length<=1000000):
  Calls prog 252 #[v,.string (B p),.func (.func 253) #[] #[]] w λe w'=>e=.returned (.tuple #[.int .i64 (nD l p),.bool (eX l p).isSome])/\Fp ab w w':=by
 have ha:Up (l.map Hl.d):=CI.1 Mq;clear Mq;obtain⟨ao,cap,rfl⟩:=hv.shape;obtain⟨n,aR⟩:∃n,n=l.length:=⟨_,rfl⟩;have GN:(l.map Hl.d).length=n:=by rw[aR,List.length_map]
 have HX:=zI (yI aR (yI hv (yI ha GN)));have H0:Hid (yP (l.map Hl.d) p w 0 n w):=⟨Fp.refl _ _,λx _ h=>absurd h (Nat.not_lt_zero x),λx h1 h2=>by omega,Nat.zero_le _,by omega⟩
 rw[<-aR];have jS:n<=1000000:=by omega
 clear hv ha hn aR GN;go_enter func252,ntmps252
 go_wp2_with fail
 go_loopw [9,10] (λi j wr=>∃a b:Nat,a<=n/\b<=n/\i=.int .i64 a/\j=.int .i64 b/\Hid (yP (l.map Hl.d) p w a b wr)) (λi j _=>(RowKit.intOf j).toNat-(RowKit.intOf i).toNat)
 case atStart=>exact⟨0,n,Nat.zero_le _,Nat.le_refl _,rfl,rfl,H0⟩
 clear H0;obtain⟨a,b,iQ,mC,rfl,rfl,hR⟩:=hrel;rename_i wr _
 by_cases ay:a<b
 ·obtain⟨h,hh⟩:∃h,h=(a+b) / 2:=⟨_,rfl⟩
  have eV:a<=h/\h<b:=by omega
  have he:((a:Int)+(b:Int)) / 2=(h:Int):=by omega
  have kV:h<l.length:=by rw[<-HX.1];omega
  have sP:h<(l.map Hl.d).length:=by rw[HX.2.2.2];omega
  have q5:(h<n)=True:=eq_true (by omega)
  have q6:((h:Int)<(n:Int))=True:=eq_true (by omega)
  obtain⟨g,o,aY,e,_,_,_,aq⟩:=HX.2.1.at (by omega)
  injection e with e1 e2 e3
  subst e1 e3;have pG:=λc w' f=>hR.below (w':=w') HX.2.2.1 sP eV.1 eV.2 c f
  have eR:=λc w' f=>hR.CM (w':=w') HX.2.2.1 sP eV.1 eV.2 c f
  have aE:=(aq h kV).keep hR.fp id;simp only[List.getElem_map]at pG eR
  obtain⟨x,hx⟩:∃x,x=l[h]:=⟨_,rfl⟩;rw[<-hx]at pG eR aE;clear hx;obtain⟨y,xt,xa⟩:=x;have c0:=aE.c0;have c1:=aE.c1;have c2:=aE.c2;unfold au at c0;simp only at c0 c1 c2 pG eR
  clear aE;have HB:=zI (yI pG eR);have HA:=zI (yI eV (yI iQ mC));clear aq pG eR hh iQ mC;skip
  have q3:((a:Int)<(b:Int))=True:=eq_true (by omega)
  have q4:(a<b)=True:=eq_true ay;have Sc:h<=1000000:=by have:=HA.out;omega
  clear kV sP ay eV;cases bq:lt y p with
  |true=>
   have z0:(cF y p<0)=True:=eq_true (by unfold cF;rw[if_pos bq];decide)
   go_wp2_with fail
   refine(l5 ⟨y,xt,xa⟩ _ _).mono ?_;rintro e w2⟨rfl,bY⟩;simp only
   have hM:=zI (HB.1 bq _ bY);clear bq;go_wp2;go_roundw
   case rel=>exact⟨h+1,b,by have:=HA.out;omega,HA.2.2,by go_num,rfl,hM⟩
   case measure=>have:=HA.out;simp[RowKit.intOf];omega
  |false=>?_
  have z0:(cF y p<0)=False:=eq_false (by unfold cF;rw[if_neg (by rw[bq];exact Bool.false_ne_true)];split<;>decide)
  go_wp2_with fail
  refine(l5 ⟨y,xt,xa⟩ _ _).mono ?_;rintro e w2⟨rfl,bY⟩;simp only
  have hM:=zI (HB.2 bq _ bY);clear bq;go_wp2;go_roundw
  case rel=>exact⟨a,h,HA.2.1,by have:=HA.out;omega,rfl,rfl,hM⟩
  case measure=>have:=HA.out;simp[RowKit.intOf];omega
 have eV:a=b:=by have:=hR.ij;omega
 subst eV;have cC:nD l p=a:=P0 (by have:=hR.jn;simpa using this) (λi h hi=>by have:=hR.lo i (by simpa using h) hi;simpa using this) (λi h hi=>by have:=hR.hi i (by simpa using h) hi;simpa using this)
 have WE:=A4 (CI.2 HX.2.2.1) p;have q3:((a:Int)<(a:Int))=False:=eq_false (by omega)
 by_cases gm:a<n
 ·have kV:a<l.length:=by rw[<-HX.1];exact gm
  have sP:a<(l.map Hl.d).length:=by rw[HX.2.2.2];exact gm
  obtain⟨g,o,aY,e,_,_,_,aq⟩:=HX.2.1.at (by omega)
  injection e with e1 e2 e3
  subst e1 e3
  have bf:∀y,(l.map Hl.d)[a]=y->(eX l p).isSome=decide (y=p):=λy hy=>by
   rw[WE,dif_pos (by rw[cC];exact kV)]
   simp only[cC]
   rw[List.getElem_map]at hy;rw[hy];by_cases e:y=p<;>simp[e]
  have aE:=(aq a kV).keep hR.fp id;obtain⟨x,hx⟩:∃x,x=l[a]:=⟨_,rfl⟩;rw[<-hx]at aE;have Mp:(l.map Hl.d)[a]=x.d:=by rw[List.getElem_map,<-hx]
  clear hx;obtain⟨y,xt,xa⟩:=x;have c0:=aE.c0;have c1:=aE.c1;have c2:=aE.c2;unfold au at c0;simp only at c0 c1 c2 Mp
  clear aE;have NI:=bf _ Mp;have q5:((a:Int)<(n:Int))=True:=eq_true (by omega)
  have q6:(a<n)=True:=eq_true gm;have l6:=hR.hi a sP (Nat.le_refl _);rw[Mp]at l6
  have B2:(cF y p == 0)=decide (y=p):=by
   unfold cF;rw[if_neg (by rw[l6];exact Bool.false_ne_true)]
   by_cases e:y=p
   ·rw[if_pos e,decide_eq_true e];rfl
   rw[if_neg e,decide_eq_false e];rfl
  have HZ:=zI (yI NI (yI B2 cC));clear cC WE NI bf gm aq iQ mC kV sP ay l6 B2 Mp;go_wp2_with fail
  refine(l5 ⟨y,xt,xa⟩ _ _).mono ?_;rintro e w2⟨rfl,bY⟩;have HF:=zI (hR.fp.then bY);clear bY;simp only
  go_wp2;go_ret2
  exact⟨by rw[HZ.1,<-HZ.2.1,HZ.2.2];rfl,HF.out⟩
 have q5:((a:Int)<(n:Int))=False:=eq_false (by omega)
 have q6:(a<n)=False:=eq_false gm
 have cP:(eX l p).isSome=false:=by
  rw[WE,dif_neg (by rw[cC,<-HX.1];exact gm)];rfl
 have EG:=zI (yI cP cC);clear gm ay iQ mC cP cC WE;go_wp2;go_ret2
 exact⟨by rw[EG.1,EG.2];rfl,hR.fp⟩
theorem FC(v:Value)(l:List Hl)(p:Bs)(w:World)(hv:di w v l)(Mq:kB l)(hn:l.length<=1000000):
  Calls prog 195 #[v,.string (B p)] w λe w'=>e=.returned (.tuple #[.int .i64 (nD l p),.bool (eX l p).isSome])/\Fp ab w w':=by
 have hs:=BB v l p w hv Mq hn;obtain⟨ao,cap,rfl⟩:=hv.shape;generalize (eX l p).isSome=b at *;generalize nD l p=k at *;generalize l.length=n at *;have HS:=zI hs;clear hs hv hn Mq;go_enter func195,ntmps195
 go_wp2_with fail
 refine HS.mono ?_;rintro e w1⟨rfl,hf⟩;have HF:=zI hf;clear hf;go_wp2;go_ret2
 exact⟨rfl,HF.out⟩
theorem N0(x:Hl)(w:World)(hp:x.d.length<=1000000):Calls prog 80 #[lF x] w λe w'=>e=.returned (.bool (nA x))/\Fp ab w w':=by
 obtain⟨p,t,a⟩:=x;have h3:=λw=>cE p w (cH hp (by omega))
 have e:nA ⟨p,t,a⟩=((split p).isSome && Wu t && Zb a):=rfl;rw[e];have HF:=zI (aa w (.cells #[.string (B p),.int .i64 t,.int .i64 a] dx));unfold lF au;generalize (split p).isSome=b3 at *;have H3:=zI h3;clear h3 hp e;simp only
 go_enter func80,ntmps80
 go_wp2_with fail
 refine(H3 _).mono ?_;rintro e w1⟨rfl,hg⟩;have HG:=zI (HF.then hg.fp);cases b3 with
 |false=>
  clear hg;go_wp2;go_ret;exact⟨rfl,HG.out⟩
 |true=>?_
 have bY:=(Fp.refl ab _).then hg.fp;have hc:=heap_alloc_new w (.cells #[.string (B p),.int .i64 t,.int .i64 a] dx);have h0:=hg.fp.heap hc id;have c1:w1.cell? ⟨w.heap.size,1,none⟩=some (.int .i64 t):=by rw[cell_of_row _ _ _ _ _ _ h0];rfl
 have c2:w1.cell? ⟨w.heap.size,2,none⟩=some (.int .i64 a):=by rw[cell_of_row _ _ _ _ _ _ h0];rfl
 clear hg bY hc h0;go_wp2
 all_goals
  go_ret;refine⟨aB ?_,HG.out⟩;unfold Wu Zb tj;rw[Bool.eq_iff_iff];simp
  omega
set_option maxRecDepth 100000
open Go.RowKit Go.Shelf Pm
attribute [local go_sem] Oper.semAt_some
def upto{α:Type}(f:Nat->α)(k:Nat):List α:=(List.range k).map f
theorem oe{α:Type}(f:Nat->α)(k:Nat):upto f (k+1)=upto f k++[f k]:=by simp[upto,List.range_succ]
theorem yQ{α:Type}(f:Nat->α)(k:Nat):(upto f k).length=k:=by simp[upto]
def NV:Hl:=⟨[],0,0⟩
abbrev Nh:={ x:Nat×Hl // x.2.d.length<=1000000 }
def dn(l:List Hl)(j:Nat):Nh:=if h:(l[l.length-1-j]?.getD NV).d.length<=1000000 then ⟨(l.length-1-j,l[l.length-1-j]?.getD NV),h⟩ else ⟨(0,NV),by simp[NV]⟩
theorem CN{l:List Hl}(hp:∀x∈l,x.d.length<=1000000){j:Nat}(hj:j<l.length):dn l (l.length-1-j)=⟨(j,l[j]),hp _ (List.getElem_mem hj)⟩:=by
 have e2:l.length-1-(l.length-1-j)=j:=by omega
 have e:l[j]?.getD NV=l[j]:=by rw[List.getElem?_eq_getElem hj];rfl
 have QJ:=hp _ (List.getElem_mem hj);unfold dn;simp only[e2,e,QJ,dite_true]
theorem yR(F:Fence)(n:Nat)(h5:F.fn 104)(JF:F.round=none)(a:Option Addr)(len cap:Nat)(w:World):
  CallsIn F n prog 104 #[.slice a len cap] w λe w'=>e=.returned (.func (.func 157) #[] #[.pointer (some ⟨w.heap.size,0,none⟩)])/\w'=w.alloc (.cells #[.slice a len cap] bE):=by
 refine callsIn_of_wp func104 rfl h5 ?_ JF;simp only[ntmps104,List.size_toArray,List.length_cons,List.length_nil,Nat.reduceAdd,Nat.reduceSub,Array.replicate_succ,Array.replicate_zero,List.push_toArray,List.append_toArray,List.nil_append,List.cons_append]
 gi_wp2
 go_ret;exact⟨rfl,rfl⟩
theorem Jh(F:Fence)(n:Nat)(h8:F.fn 157)(JF:F.round=none)(hn:1<=n)(lp Bs nf:Nat)(ao:Option Addr)(len cap:Nat)(l:List Hl)(hlen:len=l.length)(hb:len<=1000000)(hp:∀x∈l,x.d.length<=1000000)(J Jx:List Nh->World->Prop)
  (hY:∀pre x W,J pre W->pre.length<len->YieldAt F (n-1) prog lp #[.int .i64 (x.1.1:Int),.agg #[.string (B x.1.2.d),.int .i64 x.1.2.t,.int .i64 x.1.2.a]] W λe W'=>
   (e=.returned (.bool true)/\J (pre++[x]) W'/\Below nf W W')\/(e=.returned (.bool false)/\Jx (pre++[x]) W'))
  (W:World) (Zw:Bs<nf) (Zx:W.cell? ⟨Bs,0,none⟩=some (.slice ao len cap)) (hc:l=[]\/∃g o,ao=some ⟨g,o,none⟩/\g<nf/\∀i (h:i<l.length),dz W g (o+i*3) l[i]) (h0:J [] W):
  CallsIn F n prog 157 #[.func (.yield lp) #[] #[],.pointer (some ⟨Bs,0,none⟩)] W λe W'=>(∃v,e=.returned v)/\
   ((∃ys,ys=upto (dn l) len/\J ys W')\/(∃pre,(∃k,k<=len/\pre=upto (dn l) k)/\Jx pre W')):=by
 refine callsIn_of_wp func157 rfl h8 ?_ JF;simp only[ntmps157,List.size_toArray,List.length_cons,List.length_nil,Nat.reduceAdd,Nat.reduceSub,Array.replicate_succ,Array.replicate_zero,List.push_toArray,List.append_toArray,List.nil_append,List.cons_append]
 gi_wp2
 gi_loopw [3] (λi wr=>∃k:Nat,k<=len/\i=.int .i64 ((len:Int)-1-k)/\J (upto (dn l) k) wr/\Below nf W wr)
  (λi _=>(intOf i+1).toNat)
 case atStart=>exact⟨0,Nat.zero_le _,by go_num,h0,Below.refl _ _⟩
 obtain⟨k,hk,rfl,hJs,ou⟩:=hrel;have Mv:wr.cell? ⟨Bs,0,none⟩=some (.slice ao len cap):=(ou.cell (p:=⟨Bs,0,none⟩) Zw).trans Zx;by_cases ay:k<len
 ·obtain⟨m,hm⟩:∃m:Nat,m=len-1-k:=⟨_,rfl⟩
  have Sm:(len:Int)-1-(k:Int)=(m:Int):=by omega
  have sv:m<l.length:=by omega
  have QJ:=hp l[m] (List.getElem_mem sv)
  have hd:dn l k=⟨(m,l[m]),QJ⟩:=by
   rw[show k=l.length-1-m from by omega];exact CN hp sv
  obtain⟨g,o,rfl,hg,pC⟩:∃g o,ao=some ⟨g,o,none⟩/\g<nf/\∀i (h:i<l.length),dz W g (o+i*3) l[i]:=by
   rcases hc with rfl|h
   ·simp at sv
   exact h
  have aE:=pC m sv;have c0:wr.cell? ⟨g,o+m*3,none⟩=some (.string (B l[m].d)):=(ou.cell (p:=⟨g,o+m*3,none⟩) hg).trans aE.c0;have c1:wr.cell? ⟨g,o+m*3+1,none⟩=some (.int .i64 l[m].t):=(ou.cell (p:=⟨g,o+m*3+1,none⟩) hg).trans aE.c1;have c2:wr.cell? ⟨g,o+m*3+2,none⟩=some (.int .i64 l[m].a):=(ou.cell (p:=⟨g,o+m*3+2,none⟩) hg).trans aE.c2;obtain⟨fn,tmps,assign,body,hy,hR⟩:=hY _ ⟨(m,l[m]),QJ⟩ wr hJs (by rw[yQ];exact ay)
  dsimp only at hy
  rw[Sm];generalize hxx:l[m]=x at *;obtain⟨xd,xt,xa⟩:=x;simp only at c0 c1 c2 hy hR
  clear aE pC hc;have q1:((0:Int)<=(m:Int))=True:=eq_true (by omega)
  have q2:((m:Int)<(len:Int))=True:=eq_true (by omega)
  have q3:(m<len)=True:=eq_true (by omega)
  have db:=I6;have GH:m<=1000000:=by omega
  have HM:=zI (yI hm (yI Sm (yI ay hd)));clear hd hxx sv hlen ay Sm hm;gi_wp2
  refine hR.mono ?_;rintro e W3 (⟨rfl,hJ3,OK⟩|⟨rfl,hJx3⟩)
  ·gi_wp2
   go_roundw
   case rel=>
    have:=HM.out;have e:(len:Int)-1-((k+1:Nat):Int)=(m:Int)-1:=by omega
    exact⟨k+1,by omega,by rw[e],by rw[oe,HM.2.2.2];exact hJ3,ou.trans OK⟩
   case measure=>simp[intOf]
  gi_wp2
  refine bodyPost_ret (results_none rfl _ _ _) rfl ?_;exact⟨⟨_,rfl⟩,.inr ⟨_,⟨k+1,by have:=HM.out;omega,by rw[oe,HM.2.2.2]⟩,hJx3⟩⟩
 obtain rfl:k=len:=by omega
 have q1:((0:Int)<=(k:Int)-1-(k:Int))=False:=eq_false (by omega)
 have q0:(k:Int)-1-(k:Int) = -1:=by omega
 rw[q0];gi_wp2
 go_end0
 exact⟨⟨_,rfl⟩,.inl ⟨_,rfl,hJs⟩⟩
theorem BC(F:Fence)(n:Nat)(h8:F.fn 157)(JF:F.round=none)(hn:1<=n)(Bs nf:Nat)(ao:Option Addr)(cap:Nat)(l:List Hl)(hb:l.length<=1000000)(hp:∀x∈l,x.d.length<=1000000)(w:World)(Zx:Bs<w.heap.size)(aa2:nf<=w.heap.size)(Zw:Bs<nf)
  (hc:w.cell? ⟨Bs,0,none⟩=some (.slice ao l.length cap)) (hI:l=[]\/∃g o,ao=some ⟨g,o,none⟩/\g<nf/\∀i (h:i<l.length),dz w g (o+i*3) l[i]):
  SeqStopsK F n prog 157 #[.pointer (some ⟨Bs,0,none⟩)] (λx:Nh=>#[Value.int .i64 (x.1.1:Int),.agg #[.string (B x.1.2.d),.int .i64 x.1.2.t,.int .i64 x.1.2.a]]) (Below nf) (λys=>ys=upto (dn l) l.length) (λpre=>∃k,k<=l.length/\pre=upto (dn l) k) l.length w:=λlp J Jx W hW _ _ hY h0=>by
 have hc':=(hW.cell (p:=⟨Bs,0,none⟩) Zx).trans hc;refine(Jh F n h8 JF hn lp Bs nf ao l.length cap l rfl hb hp J Jx hY W Zw hc' ?_ h0).mono ?_
 ·rcases hI with h|⟨g,o,e,hg,hi⟩
  ·exact .inl h
  have Zy:g<w.heap.size:=by omega
  exact .inr ⟨g,o,e,hg,λi h=>⟨(hW.cell (p:=⟨g,_,none⟩) Zy).trans (hi i h).c0,(hW.cell (p:=⟨g,_,none⟩) Zy).trans (hi i h).c1,(hW.cell (p:=⟨g,_,none⟩) Zy).trans (hi i h).c2⟩⟩
 rintro e W'⟨he,⟨ys,hy,hj⟩|⟨pre,hk,hj⟩⟩
 ·exact⟨he,.inl ⟨ys,hy,hj⟩⟩
 exact⟨he,.inr ⟨pre,hk,hj⟩⟩
def Zz(W:World)(b:Nat)(x:Hl):Prop:=W.heap[b]?=some (.cells #[.string (B x.d),.int .i64 x.t,.int .i64 x.a] dx (0,0))
theorem Zz.lt{W:World}{b:Nat}{x:Hl}(h:Zz W b x):b<W.heap.size:=(Array.getElem?_eq_some_iff.1 h).1
theorem ic{W W':World}{nf b:Nat}{t:TypeId}{v:Value}(h:Boxed W b t v)(f:Below nf W W')(hb:b<nf):Boxed W' b t v:=(f.block b hb).trans h
theorem sW(v:Value)(l:List Hl)(d:Bs)(w:World)(hv:di w v l)(hl:l.length<=1000000)(hp:∀x∈l,x.d.length<=1000000)(hd:d.length<=1000000):
  Calls prog 71 #[v,.string (B d)] w λe w'=>e=.returned (.int .i64 (idx (bk l d l.length)))/\Fp ab w w':=by
 obtain⟨ao,cap,rfl,aa3,aa4,hN⟩:=hv.ex;refine(callsIn_wide (n:=4)).1 ?_;refine callsIn_of_wp_marks func71 rfl trivial ?_ rfl;simp only[ntmps71,List.size_toArray,List.length_cons,List.length_nil,Nat.reduceAdd,Nat.reduceSub,Array.replicate_succ,Array.replicate_zero,List.push_toArray,List.append_toArray,List.nil_append,List.cons_append]
 gi_wp2_with (refine⟨trivial,?_⟩;gi_at_call 104;refine(yR Fence.wide _ trivial rfl _ _ _ _).mono ?_;rintro e w'⟨rfl,rfl⟩)
 have bD:=((Boxed.new w 9 (.string (B d))).alloc (.cells #[.int .i64 0] 3)).alloc (.cells #[.slice ao l.length cap] bE);have bR:=(Boxed.new (w.alloc (.cells #[.string (B d)] 9)) 3 (.int .i64 0)).alloc (.cells #[.slice ao l.length cap] bE);have bS:=Boxed.new ((w.alloc (.cells #[.string (B d)] 9)).alloc (.cells #[.int .i64 0] 3)) bE (.slice ao l.length cap);simp only[World.size_alloc]at bR bS
 have Rf:Below w.heap.size w (((w.alloc (.cells #[.string (B d)] 9)).alloc (.cells #[.int .i64 0] 3)).alloc (.cells #[.slice ao l.length cap] bE)):=(((Below.refl _ w).alloc (Nat.le_refl _) _).alloc (by simp) _).alloc (by simp;omega) _
 have db:(((w.alloc (.cells #[.string (B d)] 9)).alloc (.cells #[.int .i64 0] 3)).alloc (.cells #[.slice ao l.length cap] bE)).heap.size=w.heap.size+3:=by simp
 obtain⟨W0,dw⟩:∃W0,((w.alloc (.cells #[.string (B d)] 9)).alloc (.cells #[.int .i64 0] 3)).alloc (.cells #[.slice ao l.length cap] bE)=W0:=⟨_,rfl⟩;rw[dw]at bD bR bS Rf db|-;clear dw
 refine wpIn_rangeFunc_ownH rfl (by omega) (gf:=157) (lb:=#[.pointer (some ⟨w.heap.size+1+1,0,none⟩)]) rfl trivial (enters_of func157 (by kernel_rfl) rfl)
  (BC Fence.wide _ trivial rfl (by omega) (w.heap.size+1+1) W0.heap.size ao cap l hl hp W0 (by omega) (Nat.le_refl _) (by omega) bS.cell (by
   rcases hN with h|⟨g,o,e,hg,hi⟩
   ·exact .inl h
   exact .inr ⟨g,o,e,by omega,λi h=>⟨(Rf.cell (p:=⟨g,_,none⟩) hg).trans (hi i h).c0,(Rf.cell (p:=⟨g,_,none⟩) hg).trans (hi i h).c1,(Rf.cell (p:=⟨g,_,none⟩) hg).trans (hi i h).c2⟩⟩))
  belowK_t (belowK_b (Nat.le_refl _)) (Below.refl _ _) (λ_=>rfl)
  (λpre W=>(∀p∈pre,lR d p.1.2.d=false)/\Below W0.heap.size W0 W)
  (λc pre W=>(c=.ret/\∃Vc last,pre=Vc++[last]/\(∀p∈Vc,lR d p.1.2.d=false)/\lR d last.1.2.d=true/\Boxed W (w.heap.size+1) 3 (.int .i64 (last.1.1:Int)))/\Below w.heap.size w W)
  (OwnFrom.and (Own.from (λs X Y row hs hg hr=>hs) _) (ownFrom_below (Nat.le_refl _) (Nat.le_refl _)))
  (λc=>OwnFrom.and (Own.from (λs X Y row hs hg hr=>by obtain⟨hc,Vc,last,e1,e2,e3,e4⟩:=hs;exact⟨hc,Vc,last,e1,e2,e3,boxed_own _ 3 (λ(_:Unit)=>Value.int .i64 (last.1.1:Int)) () X Y row e4 hg hr⟩) _) (ownFrom_below (Nat.le_refl _) (by omega)))
  ⟨by simp,Below.refl _ _⟩
  (λx a' W=>∃b,W0.heap.size<=b/\Zz W b x.1.2/\a'={ tmps:=#[.slice ao l.length cap,.string (B d),undef,.pointer (some ⟨w.heap.size,0,none⟩),.pointer (some ⟨w.heap.size+1,0,none⟩),.int .i64 (x.1.1:Int),.pointer (some ⟨b,0,none⟩),.slice ao l.length cap,.func (.func 157) #[] #[.pointer (some ⟨w.heap.size+1+1,0,none⟩)],.int .i64 (x.1.1:Int),.agg #[.string (B x.1.2.d),.int .i64 x.1.2.t,.int .i64 x.1.2.a],undef,undef,undef,undef,undef],defers:=[] })
  (λx a' _ X Y row hs hg hr=>by obtain⟨b,h1,h2,h3⟩:=hs;exact⟨b,h1,(hg.block b h2.lt (λe'=>by obtain⟨_,o,ho,hc⟩:=hr b e'.symm;rw[show X.heap[b]?=_ from h2]at ho;cases ho;cases hc)).trans h2,h3⟩)
  ?assign ?body ?done ?stop
 case assign=>
  rintro lp pre x W K⟨h1,E4⟩ hK;have oj:=E4.size;have ac2:=I6;gi_wp2
  exact hK _ _ ((KeepsOthers.alloc _ _).from _) ((Below.refl _ W).alloc oj _) ⟨h1,E4.alloc oj _⟩ ⟨W.heap.size,oj,World.alloc_heap_new W _,rfl⟩
 case body=>
  rintro lp pre x a' W Vk⟨r,hr⟩⟨h1,E4⟩⟨b,hb,bX,rfl⟩ ay;have cD:=(ic bD E4 (by omega)).cell
  have Rg:=ic bR E4 (by omega)
  have cX:W.cell? ⟨b,0,none⟩=some (.string (B x.1.2.d)):=by rw[cell_of_row _ _ _ _ _ _ bX];rfl
  have hI:=λw'=>PW d x.1.2.d w' (by omega) (by have:=x.2;omega)
  have eK:∃t,lR d x.1.2.d=t:=⟨_,rfl⟩;obtain⟨t,eK⟩:=eK;rw[eK]at hI;cases t with
  |true=>
   gi_wp2_with (refine⟨trivial,?_⟩;gi_at_call 105;refine(CallsIn.inRound lp (callsIn_wide.2 (hI _))).mono ?_;rintro e w'⟨rfl,hg⟩;have ZA:=ic Rg hg Rg.lt;have cR:=ZA.cell;have fR:=ZA.frozen)
   have ZB:KeepsFrom W0.heap.size W w':=⟨hg.size,λk o _ hk _=>(hg.block k (Array.getElem?_eq_some_iff.1 hk).1).trans hk⟩
   have Mv:Below w.heap.size w w':=(Rf.trans (E4.mono (by omega))).trans (hg.mono (by have:=E4.size;omega))
   exact⟨ZB.trans ((KeepsOthers.setCell _ _ _).from _),⟨rfl,pre,x,rfl,h1,eK,ZA.set _⟩,Mv.setCell (p:=⟨w.heap.size+1,0,none⟩) (by simp) _⟩
  |false=>?_
  gi_wp2_with (refine⟨trivial,?_⟩;gi_at_call 105;refine(CallsIn.inRound lp (callsIn_wide.2 (hI _))).mono ?_;rintro e w'⟨rfl,hg⟩)
  have ZB:KeepsFrom W0.heap.size W w':=⟨hg.size,λk o _ hk _=>(hg.block k (Array.getElem?_eq_some_iff.1 hk).1).trans hk⟩
  have CJ:=hg.mono E4.size;exact⟨ZB,CJ,λp MG=>(List.mem_append.1 MG).elim (h1 p) (λe=>by simp at e;subst e;exact eK),E4.trans CJ⟩
 case done=>
  rintro D ys W hD rfl⟨bA,E4⟩ hK;have Rg:=ic bR E4 (by omega)
  have cR:=Rg.cell;have fR:=Rg.frozen;gi_wp2
  have ZC:=(KeepsOthers.setCell W ⟨w.heap.size+1,0,none⟩ (.int .i64 (-1))).same D _ hK rfl;refine⟨by simp,.inl ⟨_,_,rfl,run_takeDeferred ZC,?_⟩⟩
  have vY:=cell_kept (Rg.set (.int .i64 (-1))).cell (grownBy_putObj' _ D (.deferred none)) (λr e=>by cases e;exact⟨_,ZC,rfl⟩)
  have cP:bk l d l.length=none:=LR λj hj=>by
   rw[vx hj];have h2:=bA (dn l (l.length-1-j)) (by simp only[upto,List.mem_map,List.mem_range];exact⟨_,by omega,rfl⟩)
   rwa[CN hp hj]at h2
  have Mv:Below w.heap.size w W:=Rf.trans (E4.mono (by omega))
  refine⟨.int .i64 (-1),?_,by rw[cP];rfl,Fp.cB ((Mv.setCell (p:=⟨w.heap.size+1,0,none⟩) (by simp) _).trans (belowK_b (w:=w) (Nat.le_refl _) _ D _ _ (by omega) ZC rfl rfl))⟩
  simp[results,Tryz.f71,go_sem,vY]
 rintro D c pre W hD⟨k,hk,rfl⟩⟨⟨rfl,Vc,last,e1,e2,e3,pP⟩,hB⟩ hK;gi_wp2
 refine⟨by simp,.inl ⟨_,_,rfl,run_takeDeferred hK,?_⟩⟩
 have vY:=cell_kept pP.cell (grownBy_putObj' _ D (.deferred none)) (λr e=>by cases e;exact⟨_,hK,rfl⟩)
 obtain⟨k',rfl⟩:∃k',k=k'+1:=by
  cases k with
  |zero=>simp[upto]at e1
  |succ k'=>exact⟨k',rfl⟩
 rw[oe]at e1;obtain⟨rfl,e5⟩:=List.append_inj' e1 rfl;obtain rfl:dn l k'=last:=by simpa using e5
 have aS:l.length-1-k'<l.length:=by omega
 have hdk:dn l k'=dn l (l.length-1-(l.length-1-k')):=by rw[show l.length-1-(l.length-1-k')=k' from by omega]
 have TC:=CN hp aS;rw[<-hdk]at TC
 have gj:bk l d l.length=some (l.length-1-k'):=UM aS (by rw[vx aS];rw[TC]at e3;exact e3) λj h1 h2=>by
  rw[vx h2];have h3:=e2 (dn l (l.length-1-j)) (by simp only[upto,List.mem_map,List.mem_range];exact⟨_,by omega,rfl⟩)
  rwa[CN hp h2]at h3
 refine⟨.int .i64 ((l.length-1-k':Nat):Int),?_,by rw[gj];rfl,Fp.cB (hB.trans (belowK_b (w:=w) (Nat.le_refl _) W D _ _ (by omega) hK rfl rfl))⟩
 rw[TC]at vY;simp[results,Tryz.f71,go_sem,vY]
end Go.Proofs.YtgafcelloiagmaaGreatDoor
