/- A text of this proof. -/
import Derived.Test.YtgafcelloiagmaaGreatDoorZCJ
set_option maxHeartbeats 16000000
set_option linter.unusedSimpArgs false
set_option linter.unusedVariables false
set_option maxRecDepth 20000
namespace Go.Proofs.YtgafcelloiagmaaGreatDoor
open Go.Proofs.Tryz
open Go.RowKit Pm
def Ow(lo:Nat)(w:World)(v:Value)(l:List Nd):Prop:=w.ownsRow lo TN 5 v l.length (rows l)
theorem Ow.ways{lo:Nat}{w:World}{v:Value}{l:List Nd}(h:Ow lo w v l):(v=.slice none 0 0/\l=[])\/∃G cap,v=.slice (some ⟨G,0,none⟩) l.length cap/\Nr w G cap l/\lo<=G:=by
 have h':=h;unfold Ow at h';rcases h'.2 with⟨h0,h1⟩|⟨g,cap,cur,e,hb,hg,h1,h2,h3,h4⟩
 ·refine .inl ⟨h0,?_⟩
  cases l with
  |nil=>rfl
  |cons x l=>simp at h1
 refine .inr ⟨g,cap,e,?_⟩;unfold Ow at h;rw[e]at h;exact Nr.cK h rfl
theorem Ow.ns{lo:Nat}{w:World}{v:Value}{l:List Nd}(h:Ow lo w v l):Ns w v l:=by
 rcases h.ways with⟨rfl,rfl⟩|⟨G,cap,rfl,h1,_⟩
 ·exact Ns.nil w
 exact h1.ns
theorem Ow.row{lo:Nat}{w:World}{G cap:Nat}{l:List Nd}(h:Nr w G cap l)(bq:lo<=G):Ow lo w (.slice (some ⟨G,0,none⟩) l.length cap) l:=h.owns bq
theorem Ow.nil(lo:Nat)(w:World):Ow lo w (.slice none 0 0) []:=⟨rfl,.inl ⟨rfl,rfl⟩⟩
theorem Ow.keep{lo:Nat}{w w':World}{v:Value}{l:List Nd}(h:Ow lo w v l){S:Nat->Prop}(f:Fp S w w')(hS:∀k,v.ownBlock=some k->¬S k):Ow lo w' v l:=by
 rcases h.ways with⟨rfl,rfl⟩|⟨G,cap,rfl,h1,h2⟩
 ·exact Ow.nil lo w'
 exact Ow.row (h1.keep f (hS G rfl)) h2
theorem Ow.af{lo:Nat}{w w':World}{v:Value}{l:List Nd}(h:Ow lo w v l)(f:Fp ab w w'):Ow lo w' v l:=h.keep f (λ_ _ h=>h)
theorem Ow.low{lo:Nat}{w:World}{v:Value}{l:List Nd}(h:Ow lo w v l):∀k,v.ownBlock=some k->lo<=k:=by
 rcases h.ways with⟨rfl,rfl⟩|⟨G,cap,rfl,_,h2⟩
 ·intro k hk;simp[Value.ownBlock]at hk
 intro k hk;simp[Value.ownBlock]at hk;omega
theorem pM(w:World)(lo:Nat)(v:Value)(l m:List Nd)(ty:TypeId)(a:Addr)(n c:Nat)(hv:Ow lo w v l)(hn:n=m.length)(hx:∀i (h:i<m.length) j u,(oV m[i])[j]?=some u->w.cell? (a.add (i*5+j))=some u)(h6:l.length+m.length<=100000)(bq:lo<=w.heap.size):
  ∃v' w',(Builtin.append_ #[TL,TL] ty #[v,.slice (some a) n c]).run prog w=.ok v' w'/\Ow lo w' v' (l++m)/\w.grownBy w' v.ownBlock/\∀k,v'.ownBlock=some k->v.ownBlock=some k\/w.heap.size<=k:=by
 obtain⟨i,hi,hz,db,qY⟩:=info_parts Tryz.CG;subst hn
 obtain⟨v',w',hr,h4,h5,_,h8⟩:=run_append_own_at (P:=prog) w lo TL ty TN i _ 5 56 Tryz.underlying22 hi hz db qY rfl (by decide) v l.length (rows l) hv a m.length c (rows m) (be m)
  (λj u hu=>by
   have hj:j<m.length*5:=by rw[<-be];exact(List.getElem?_eq_some_iff.1 hu).1
   have hd:j / 5<m.length:=by omega
   have e:j / 5*5+j % 5=j:=by omega
   rw[<-e,kx m (j / 5) (j % 5) hd (by omega)]at hu
   have:=hx (j / 5) hd (j % 5) u hu;rwa[e]at this)
  (qW m) (by unfold maxLen;omega) (by omega) bq
 refine⟨v',w',hr,?_,h5,λk hk=>?_⟩
 ·unfold Ow
  rw[ku,List.length_append];exact h4
 rcases h8 with e|e
 ·exact .inl (by rw[<-e];exact hk)
 rw[hk]at e;injection e with e;exact .inr (by omega)
structure VD(w:World)(l:List Nd)(v':Value)(w':World):Prop where
 own:Ow w.heap.size w' v' l
 fp:Fp ab w w'
theorem nI(v:Value)(l:List Nd)(w:World)(hv:Ns w v l)(h5:l.length<=100000):
  Calls prog 67 #[v] w λe w'=>∃v',e=.returned v'/\VD w l v' w':=by
 obtain⟨ao,cap,rfl,h1,h2,h3⟩:=hv.ex;cases ao with
 |none=>
  obtain rfl:l=[]:=by
   rcases h3 with h|⟨_,_,h,_⟩
   ·exact h
   cases h
  have fW:∀w:World,(binOp .eql TL (.slice none 0 cap) (.slice none 0 0)).run prog w=.ok (.bool true) w:=λw=>Lib.run_eql_slice_nil w TL TN none 0 cap 0 0 Tryz.underlying22
  clear h1 h2 h3 hv h5;simp only[List.length_nil]
  go_enter func67,ntmps67
  go_wp2;go_ret;exact⟨_,rfl,Ow.nil _ _,Fp.refl _ _⟩
 |some a=>?_
 have aL:Ow w.heap.size (w.alloc (.cells #[] TN)) (.slice (some ⟨w.heap.size,0,none⟩) 0 0) []:=World.ownsRow_lit w #[] 0 (Nat.le_refl _) (by unfold maxLen;omega) rfl
 have hx:∀i (h:i<l.length) j u,(oV l[i])[j]?=some u->(w.alloc (.cells #[] TN)).cell? (a.add (i*5+j))=some u:=λi hi j u hu=>by
  rcases h3 with h|⟨g,o,e,_,hc⟩
  ·subst h;simp at hi
  injection e with e;subst e
  have:=((hc i hi).keep ((Fp.refl ab w).alloc (.cells #[] TN)) id).get j u hu;rw[Addr.add_lit]at this|-;rwa[Nat.add_assoc]at this
 have bM:∀ty,∃v' w',(Builtin.append_ #[TL,TL] ty #[.slice (some ⟨w.heap.size,0,none⟩) 0 0,.slice (some a) l.length cap]).run prog (w.alloc (.cells #[] TN))=.ok v' w'/\VD w l v' w':=λty=>by
  obtain⟨v',w',hr,ho,hg,_⟩:=pM (w.alloc (.cells #[] TN)) w.heap.size _ [] l ty a l.length cap aL rfl hx (by simp;omega) (by simp)
  exact⟨v',w',hr,ho,((Fp.refl ab w).alloc _).grown hg (λk hk=>.inr (by simp[Value.ownBlock]at hk;omega))⟩
 have fW:=DX;have uS:=Lib.hid (bM TL);clear bM aL hx hv h1 h2 h3 h5;generalize l.length=n at *;go_enter func67,ntmps67
 go_wp2_with (at_builtin;go_must (refine aG rfl _ _ _ _ rfl _ _ rfl rfl (VD w l) uS.out ?_))
 intro u w2 hR;have HR:=Lib.hid hR;clear hR;go_wp2;go_ret;exact⟨_,rfl,HR.out⟩
structure Jw(lo:Nat)(w:World)(v:Value)(l:List Nd)(v':Value)(w':World):Prop where
 own:Ow lo w' v' l
 fp:Fp (λk=>v.ownBlock=some k) w w'
 new:∀k,v'.ownBlock=some k->v.ownBlock=some k\/w.heap.size<=k
theorem ql{lo:Nat}{w:World}{v:Value}{X:Nat}{l:List Nd}{x:Nd}(h:Ow lo w v l)(k:Nat)(hk:k<=l.length)(hX:w.heap[X]?=some (.cells (oV x).toArray TN (0,0)))(bA:v.ownBlock≠some X)(hl:l.length<=4000)(bq:lo<=w.heap.size):
  Calls prog 218 #[v,.int .i64 (k:Int),.slice (some ⟨X,0,none⟩) 1 1] w λe w'=>∃v',e=.returned v'/\Jw lo w v (ins l k x) v' w':=by
 have aE:dM w X 0 x:=⟨by rw[cell_of_row _ _ _ _ _ _ hX];rfl,by rw[cell_of_row _ _ _ _ _ _ hX];rfl,by rw[cell_of_row _ _ _ _ _ _ hX];rfl,by rw[cell_of_row _ _ _ _ _ _ hX];rfl,by rw[cell_of_row _ _ _ _ _ _ hX];rfl⟩
 rcases h.ways with⟨rfl,rfl⟩|⟨G,cap,rfl,h1,h2⟩
 ·obtain rfl:k=0:=by simpa using hk
  have bM:∀ty,∃v' w',(Builtin.append_ #[TL,TL] ty #[.slice none 0 0,.slice (some ⟨X,0,none⟩) 1 1]).run prog w=.ok v' w'/\Jw lo w (.slice none 0 0) (ins [] 0 x) v' w':=λty=>by
   obtain⟨v',w',hr,ho,hg,uV⟩:=pM w lo (.slice none 0 0) [] [x] ty ⟨X,0,none⟩ 1 1 h rfl (λi hi j u hu=>by
    have dC:i=0:=by simp at hi;omega
    subst dC;have:=aE.get j u hu;rwa[show 0*5+j=j from by omega]) (by simp) bq
   exact⟨v',w',hr,ho,(Fp.refl _ w).grown hg (λk hk=>.inl hk),uV⟩
  have HA:=Lib.hid bM;clear bM h hk hX aE hl;go_enter func218,ntmps218
  go_wp2_with (at_builtin;go_must (refine aG rfl _ _ _ _ rfl _ _ rfl rfl (Jw lo w (.slice none 0 0) (ins [] 0 x)) (HA TL) ?_))
  all_goals
   intro v2 w2 cN;have HR:=Lib.hid cN;clear cN;go_wp2;go_ret;exact⟨_,rfl,HR.out⟩
 have Be:X≠G:=λe=>bA (by rw[e];rfl)
 have hf:∀w',Fp (λj=>j=G) w w'->Fp (λk=>(Value.slice (some ⟨G,0,none⟩) l.length cap).ownBlock=some k) w w':=λw' f=>f.mono (λk hk=>by rw[hk];rfl)
 by_cases h0:0<l.length
 ·refine(IM h1 k hk hX Be hl h0).mono ?_
  rintro e w'⟨v',rfl,hR⟩;obtain⟨G',aY,rfl,a1,a2,a3⟩:=hR.ex;refine⟨_,rfl,?_,hf w' a3,λk hk=>by rcases a2 with e|e<;>(simp only[Value.ownBlock,Option.some.injEq]at hk|-;omega)⟩
  have:=Ow.row (lo:=lo) a1 (by rcases a2 with e|e<;>omega)
  rwa[dX]at this
 obtain rfl:l=[]:=List.eq_nil_of_length_eq_zero (by omega)
 obtain rfl:k=0:=by simpa using hk
 have bM:∀ty,∃v' w',(Builtin.append_ #[TL,TL] ty #[.slice (some ⟨G,0,none⟩) 0 cap,.slice (some ⟨X,0,none⟩) 1 1]).run prog w=.ok v' w'/\Jw lo w (.slice (some ⟨G,0,none⟩) 0 cap) (ins [] 0 x) v' w':=λty=>by
  obtain⟨v',w',hr,ho,hg,uV⟩:=pM w lo (.slice (some ⟨G,0,none⟩) 0 cap) [] [x] ty ⟨X,0,none⟩ 1 1 h rfl (λi hi j u hu=>by
   have dC:i=0:=by simp at hi;omega
   subst dC;have:=aE.get j u hu;rwa[show 0*5+j=j from by omega]) (by simp) bq
  exact⟨v',w',hr,ho,(Fp.refl _ w).grown hg (λk hk=>.inl hk),uV⟩
 have HA:=Lib.hid bM;have hm:=h1.most;unfold maxLen at hm;clear bM h hk hX aE hl h1 hf h0;simp only[List.length_nil]
 go_enter func218,ntmps218
 go_wp2_with (at_builtin;go_must (refine aG rfl _ _ _ _ rfl _ _ rfl rfl (Jw lo w (.slice (some ⟨G,0,none⟩) 0 cap) (ins [] 0 x)) (HA TL) ?_))
 all_goals
  intro v2 w2 cN;have HR:=Lib.hid cN;clear cN;go_wp2;go_ret;exact⟨_,rfl,HR.out⟩
theorem Bg(w:World)(a:Addr)(n c:Nat):(binOp .eql eM (.slice (some a) n c) (.slice none 0 0)).run prog w=.ok (.bool false) w:=
 Lib.run_eql_slice_nil w eM TU (some a) n c 0 0 Tryz.underlying23
theorem mW(n:Tu)(p:Bs)(w:World):
  Calls prog 332 #[Wv n,.string (B p)] w λe w'=>e=.returned (.int .i64 (cF n.dir p))/\Fp ab w w':=by
 obtain⟨np,t⟩:=n;unfold Wv au;have hf:∀o,Fp ab w (w.alloc o):=λo=>(Fp.refl ab w).alloc o
 have hc:=λw=>Tryz.strings_Compare (B np) (B p) w
 have e:∀l:Bs,(B l).data.toList=l:=λl=>by unfold B;rfl
 simp only[e,cmp_eq]at hc
 have HF:=Lib.hid hf;have HC:=Lib.hid hc;clear hf hc e;go_enter func332,ntmps332
 go_wp2_with fail
 refine(HC _).mono ?_;rintro e w1⟨rfl,rfl⟩;go_wp2;go_ret;exact⟨rfl,HF _⟩
structure Ww(l:List Tu)(p:Bs)(w:World)(i j:Nat)(wr:World):Prop where
 fp:Fp ab w wr
 lo:∀x (h:x<l.length),x<i->lt l[x].dir p=true
 hi:∀x (h:x<l.length),j<=x->lt l[x].dir p=false
 ij:i<=j
 jn:j<=l.length
theorem Ej(v:Value)(l:List Tu)(p:Bs)(w:World)(hv:Ts w v l)(ha:jO l)(hn:l.length<=1000000):
  Calls prog 331 #[v,.string (B p),.func (.func 332) #[] #[]] w λe w'=>e=.returned (.tuple #[.int .i64 (cj l p),.bool (eH l p).isSome])/\Fp ab w w':=by
 obtain⟨ao,cap,rfl⟩:=hv.shape;obtain⟨n,aR⟩:∃n,n=l.length:=⟨_,rfl⟩;have HX:=Lib.hid (And.intro aR (And.intro hv ha));have H0:Hid (Ww l p w 0 n w):=⟨Fp.refl _ _,λx _ h=>absurd h (Nat.not_lt_zero x),λx h1 h2=>by omega,Nat.zero_le _,by omega⟩
 rw[<-aR];have jS:n<=1000000:=by omega
 clear hv ha hn aR;go_enter func331,ntmps331
 go_wp2_with fail
 go_loopw [9,10] (λi j wr=>∃a b:Nat,a<=n/\b<=n/\i=.int .i64 a/\j=.int .i64 b/\Hid (Ww l p w a b wr)) (λi j _=>(RowKit.intOf j).toNat-(RowKit.intOf i).toNat)
 case atStart=>exact⟨0,n,Nat.zero_le _,Nat.le_refl _,rfl,rfl,H0⟩
 obtain⟨a,b,iQ,mC,rfl,rfl,hR⟩:=hrel;rename_i wr _
 by_cases ay:a<b
 ·obtain⟨h,hh⟩:∃h,h=(a+b) / 2:=⟨_,rfl⟩
  have eV:a<=h/\h<b:=by omega
  have he:((a:Int)+(b:Int)) / 2=(h:Int):=by omega
  have kV:h<l.length:=by rw[<-HX.1];omega
  have q5:(h<n)=True:=eq_true (by omega)
  have q6:((h:Int)<(n:Int))=True:=eq_true (by omega)
  obtain⟨g,o,aY,e,_,_,_,aq⟩:=HX.2.1.at (by omega)
  injection e with e1 e2 e3
  subst e1 e3;have aE:=(aq h kV).keep hR.fp id
  have pG:lt l[h].dir p=true->∀x (hx:x<l.length),x<h+1->lt l[x].dir p=true:=λk x hx B1=>by
   rcases Nat.lt_or_eq_of_le (show x<=h by omega) with e|e
   ·exact lt_trans (HX.2.2 x h hx kV e) k
   subst e;exact k
  have eR:lt l[h].dir p=false->∀x (hx:x<l.length),h<=x->lt l[x].dir p=false:=λk x hx B1=>by
   rcases Nat.lt_or_eq_of_le B1 with e|e
   ·cases c:lt l[x].dir p with
    |false=>rfl
    |true=>rw[lt_trans (HX.2.2 h x kV hx e) c]at k;cases k
   subst e;exact k
  have dP:=λw=>mW l[h] p w
  have HB:=Lib.hid (And.intro pG eR);have HA:=Lib.hid (And.intro eV (And.intro iQ mC));clear aq pG eR hh iQ mC;generalize l[h]=y at *;have c0:=aE.c0;have c1:=aE.c1;unfold au at c0;unfold Wv au at dP;have q3:((a:Int)<(b:Int))=True:=eq_true (by omega)
  have q4:(a<b)=True:=eq_true ay;have zE:∃z,cF y.dir p=z:=⟨_,rfl⟩;obtain⟨z,hz⟩:=zE;rw[hz]at dP;have y7:=Lib.hid dP;have Sc:h<=1000000:=by have:=HA.out;omega
  clear aE dP kV ay eV;by_cases bq:lt y.dir p=true
  ·have z0:(z<0)=True:=eq_true (by rw[<-hz];unfold cF;rw[if_pos bq];decide)
   have Gl:=Lib.hid bq;clear hz bq;go_wp2_with fail
   refine(y7 _).mono ?_;rintro e w2⟨rfl,bY⟩;have hM:Hid (Ww l p w (h+1) b w2):=⟨hR.fp.then bY,HB.1 Gl.out,hR.hi,by have:=HA.1;omega,hR.jn⟩
   clear bY;go_wp2;go_roundw
   case rel=>exact⟨h+1,b,by have:=HA.out;omega,HA.2.2,by go_num,rfl,hM⟩
   case measure=>have:=HA.out;simp[RowKit.intOf];omega
  have xb:lt y.dir p=false:=by simpa using bq
  have z0:(z<0)=False:=eq_false (by rw[<-hz];unfold cF;rw[if_neg bq];split<;>decide)
  have Gl:=Lib.hid xb;clear hz bq xb;go_wp2_with fail
  refine(y7 _).mono ?_;rintro e w2⟨rfl,bY⟩;have hM:Hid (Ww l p w a h w2):=⟨hR.fp.then bY,hR.lo,HB.2 Gl.out,by have:=HA.1;omega,by have:=HA.1;have:=hR.jn;omega⟩
  clear bY;go_wp2;go_roundw
  case rel=>exact⟨a,h,HA.2.1,by have:=HA.out;omega,rfl,rfl,hM⟩
  case measure=>have:=HA.out;simp[RowKit.intOf];omega
 have eV:a=b:=by have:=hR.ij;omega
 subst eV;have cC:cj l p=a:=Eb hR.jn hR.lo hR.hi;have q3:((a:Int)<(a:Int))=False:=eq_false (by omega)
 have dV:=kz HX.2.2 p;rw[cC]at dV;have HP:=Lib.hid cC;by_cases gm:a<n
 ·have mD:a<l.length:=by rw[<-HX.1];exact gm
  rw[dif_pos mD]at dV;obtain⟨g,o,aY,e,_,_,_,aq⟩:=HX.2.1.at (by omega)
  injection e with e1 e2 e3
  subst e1 e3;have aE:=(aq a mD).keep hR.fp id;have dP:=λw=>mW l[a] p w
  have uL:=hR.hi a mD (Nat.le_refl _);clear aq;generalize l[a]=y at *;have c0:=aE.c0;have c1:=aE.c1;unfold au at c0;unfold Wv au at dP;have q5:((a:Int)<(n:Int))=True:=eq_true (by omega)
  have q6:(a<n)=True:=eq_true gm;obtain⟨z,hz⟩:∃z,cF y.dir p=z:=⟨_,rfl⟩
  have B2:(z == 0)=(eH l p).isSome:=by
   rw[dV,<-hz];unfold cF;rw[if_neg (by rw[uL];exact Bool.false_ne_true)]
   by_cases e:y.dir=p
   ·rw[if_pos e,if_pos e];rfl
   rw[if_neg e,if_neg e];rfl
  rw[hz]at dP;have y7:=Lib.hid dP;have HZ:=Lib.hid B2;clear aE dP hz B2 dV uL gm mD cC iQ mC;go_wp2_with fail
  refine(y7 _).mono ?_;rintro e w2⟨rfl,bY⟩;have HF:=Lib.hid (hR.fp.then bY);clear bY;go_wp2;go_ret2
  exact⟨by rw[HP.out,<-HZ.out];rfl,HF.out⟩
 have q5:((a:Int)<(n:Int))=False:=eq_false (by omega)
 have q6:(a<n)=False:=eq_false gm;rw[dif_neg (by rw[<-HX.1];exact gm)]at dV
 have EG:=Lib.hid dV;clear dV cC gm ay iQ mC;go_wp2;go_ret2
 exact⟨by rw[HP.out,EG.out];rfl,hR.fp⟩
def ey(lo:Nat)(w:World)(v:Value)(l:List Tu):Prop:=w.ownsRow lo TU 2 v l.length (aQ l)
theorem ey.ways{lo:Nat}{w:World}{v:Value}{l:List Tu}(h:ey lo w v l):(v=.slice none 0 0/\l=[])\/∃G cap,v=.slice (some ⟨G,0,none⟩) l.length cap/\iF w G cap l/\lo<=G:=by
 have h':=h;unfold ey at h';rcases h'.2 with⟨h0,h1⟩|⟨g,cap,cur,e,hb,hg,h1,h2,h3,h4⟩
 ·refine .inl ⟨h0,?_⟩
  cases l with
  |nil=>rfl
  |cons x l=>simp at h1
 refine .inr ⟨g,cap,e,?_⟩;unfold ey at h;rw[e]at h;exact iF.cK h rfl
theorem ey.ns{lo:Nat}{w:World}{v:Value}{l:List Tu}(h:ey lo w v l):Ts w v l:=by
 rcases h.ways with⟨rfl,rfl⟩|⟨G,cap,rfl,h1,_⟩
 ·exact Ts.nil w
 exact h1.ns
theorem ey.row{lo:Nat}{w:World}{G cap:Nat}{l:List Tu}(h:iF w G cap l)(bq:lo<=G):ey lo w (.slice (some ⟨G,0,none⟩) l.length cap) l:=h.owns bq
theorem ey.nil(lo:Nat)(w:World):ey lo w (.slice none 0 0) []:=⟨rfl,.inl ⟨rfl,rfl⟩⟩
theorem ey.keep{lo:Nat}{w w':World}{v:Value}{l:List Tu}(h:ey lo w v l){S:Nat->Prop}(f:Fp S w w')(hS:∀k,v.ownBlock=some k->¬S k):ey lo w' v l:=by
 rcases h.ways with⟨rfl,rfl⟩|⟨G,cap,rfl,h1,h2⟩
 ·exact ey.nil lo w'
 exact ey.row (h1.keep f (hS G rfl)) h2
theorem ey.af{lo:Nat}{w w':World}{v:Value}{l:List Tu}(h:ey lo w v l)(f:Fp ab w w'):ey lo w' v l:=h.keep f (λ_ _ h=>h)
theorem ey.low{lo:Nat}{w:World}{v:Value}{l:List Tu}(h:ey lo w v l):∀k,v.ownBlock=some k->lo<=k:=by
 rcases h.ways with⟨rfl,rfl⟩|⟨G,cap,rfl,_,h2⟩
 ·intro k hk;simp[Value.ownBlock]at hk
 intro k hk;simp[Value.ownBlock]at hk;omega
theorem mJ(w:World)(lo:Nat)(v:Value)(l m:List Tu)(ty:TypeId)(a:Addr)(n c:Nat)(hv:ey lo w v l)(hn:n=m.length)(hx:∀i (h:i<m.length) j u,(wb m[i])[j]?=some u->w.cell? (a.add (i*2+j))=some u)(h6:l.length+m.length<=100000)(bq:lo<=w.heap.size):
  ∃v' w',(Builtin.append_ #[eM,eM] ty #[v,.slice (some a) n c]).run prog w=.ok v' w'/\ey lo w' v' (l++m)/\w.grownBy w' v.ownBlock/\∀k,v'.ownBlock=some k->v.ownBlock=some k\/w.heap.size<=k:=by
 obtain⟨i,hi,hz,db,qY⟩:=info_parts Tryz.yf;subst hn
 obtain⟨v',w',hr,h4,h5,_,h8⟩:=run_append_own_at (P:=prog) w lo eM ty TU i _ 2 24 Tryz.underlying23 hi hz db qY rfl (by decide) v l.length (aQ l) hv a m.length c (aQ m) (aO m)
  (λj u hu=>by
   have hj:j<m.length*2:=by rw[<-aO];exact(List.getElem?_eq_some_iff.1 hu).1
   have hd:j / 2<m.length:=by omega
   have e:j / 2*2+j % 2=j:=by omega
   rw[<-e,gw m (j / 2) (j % 2) hd (by omega)]at hu
   have:=hx (j / 2) hd (j % 2) u hu;rwa[e]at this)
  (kM m) (by unfold maxLen;omega) (by omega) bq
 refine⟨v',w',hr,?_,h5,λk hk=>?_⟩
 ·unfold ey
  rw[iV,List.length_append];exact h4
 rcases h8 with e|e
 ·exact .inl (by rw[<-e];exact hk)
 rw[hk]at e;injection e with e;exact .inr (by omega)
structure KL(w:World)(l:List Tu)(v':Value)(w':World):Prop where
 own:ey w.heap.size w' v' l
 fp:Fp ab w w'
theorem lO(v:Value)(l:List Tu)(w:World)(hv:Ts w v l)(h5:l.length<=100000):
  Calls prog 68 #[v] w λe w'=>∃v',e=.returned v'/\KL w l v' w':=by
 obtain⟨ao,cap,rfl,h1,h2,h3⟩:=hv.ex;cases ao with
 |none=>
  obtain rfl:l=[]:=by
   rcases h3 with h|⟨_,_,h,_⟩
   ·exact h
   cases h
  have fW:∀w:World,(binOp .eql eM (.slice none 0 cap) (.slice none 0 0)).run prog w=.ok (.bool true) w:=λw=>Lib.run_eql_slice_nil w eM TU none 0 cap 0 0 Tryz.underlying23
  clear h1 h2 h3 hv h5;simp only[List.length_nil]
  go_enter func68,ntmps68
  go_wp2;go_ret;exact⟨_,rfl,ey.nil _ _,Fp.refl _ _⟩
 |some a=>?_
 have aL:ey w.heap.size (w.alloc (.cells #[] TU)) (.slice (some ⟨w.heap.size,0,none⟩) 0 0) []:=World.ownsRow_lit w #[] 0 (Nat.le_refl _) (by unfold maxLen;omega) rfl
 have hx:∀i (h:i<l.length) j u,(wb l[i])[j]?=some u->(w.alloc (.cells #[] TU)).cell? (a.add (i*2+j))=some u:=λi hi j u hu=>by
  rcases h3 with h|⟨g,o,e,_,hc⟩
  ·subst h;simp at hi
  injection e with e;subst e
  have:=((hc i hi).keep ((Fp.refl ab w).alloc (.cells #[] TU)) id).get j u hu;rw[Addr.add_lit]at this|-;rwa[Nat.add_assoc]at this
 have bM:∀ty,∃v' w',(Builtin.append_ #[eM,eM] ty #[.slice (some ⟨w.heap.size,0,none⟩) 0 0,.slice (some a) l.length cap]).run prog (w.alloc (.cells #[] TU))=.ok v' w'/\KL w l v' w':=λty=>by
  obtain⟨v',w',hr,ho,hg,_⟩:=mJ (w.alloc (.cells #[] TU)) w.heap.size _ [] l ty a l.length cap aL rfl hx (by simp;omega) (by simp)
  exact⟨v',w',hr,ho,((Fp.refl ab w).alloc _).grown hg (λk hk=>.inr (by simp[Value.ownBlock]at hk;omega))⟩
 have fW:=Bg;have uS:=Lib.hid (bM eM);clear bM aL hx hv h1 h2 h3 h5;generalize l.length=n at *;go_enter func68,ntmps68
 go_wp2_with (at_builtin;go_must (refine aG rfl _ _ _ _ rfl _ _ rfl rfl (KL w l) uS.out ?_))
 intro u w2 hR;have HR:=Lib.hid hR;clear hR;go_wp2;go_ret;exact⟨_,rfl,HR.out⟩
structure o9(lo:Nat)(w:World)(v:Value)(l:List Tu)(v':Value)(w':World):Prop where
 own:ey lo w' v' l
 fp:Fp (λk=>v.ownBlock=some k) w w'
 new:∀k,v'.ownBlock=some k->v.ownBlock=some k\/w.heap.size<=k
theorem yn{lo:Nat}{w:World}{v:Value}{X:Nat}{l:List Tu}{x:Tu}(h:ey lo w v l)(k:Nat)(hk:k<=l.length)(hX:w.heap[X]?=some (.cells (wb x).toArray TU (0,0)))(bA:v.ownBlock≠some X)(hl:l.length<=4000)(bq:lo<=w.heap.size):
  Calls prog 278 #[v,.int .i64 (k:Int),.slice (some ⟨X,0,none⟩) 1 1] w λe w'=>∃v',e=.returned v'/\o9 lo w v (fj l k x) v' w':=by
 have aE:jL w X 0 x:=⟨by rw[cell_of_row _ _ _ _ _ _ hX];rfl,by rw[cell_of_row _ _ _ _ _ _ hX];rfl⟩
 rcases h.ways with⟨rfl,rfl⟩|⟨G,cap,rfl,h1,h2⟩
 ·obtain rfl:k=0:=by simpa using hk
  have bM:∀ty,∃v' w',(Builtin.append_ #[eM,eM] ty #[.slice none 0 0,.slice (some ⟨X,0,none⟩) 1 1]).run prog w=.ok v' w'/\o9 lo w (.slice none 0 0) (fj [] 0 x) v' w':=λty=>by
   obtain⟨v',w',hr,ho,hg,uV⟩:=mJ w lo (.slice none 0 0) [] [x] ty ⟨X,0,none⟩ 1 1 h rfl (λi hi j u hu=>by
    have dC:i=0:=by simp at hi;omega
    subst dC;have:=aE.get j u hu;rwa[show 0*2+j=j from by omega]) (by simp) bq
   exact⟨v',w',hr,ho,(Fp.refl _ w).grown hg (λk hk=>.inl hk),uV⟩
  have HA:=Lib.hid bM;clear bM h hk hX aE hl;go_enter func278,ntmps278
  go_wp2_with (at_builtin;go_must (refine aG rfl _ _ _ _ rfl _ _ rfl rfl (o9 lo w (.slice none 0 0) (fj [] 0 x)) (HA eM) ?_))
  all_goals
   intro v2 w2 cN;have HR:=Lib.hid cN;clear cN;go_wp2;go_ret;exact⟨_,rfl,HR.out⟩
 have Be:X≠G:=λe=>bA (by rw[e];rfl)
 have hf:∀w',Fp (λj=>j=G) w w'->Fp (λk=>(Value.slice (some ⟨G,0,none⟩) l.length cap).ownBlock=some k) w w':=λw' f=>f.mono (λk hk=>by rw[hk];rfl)
 by_cases h0:0<l.length
 ·refine(Ef h1 k hk hX Be hl h0).mono ?_
  rintro e w'⟨v',rfl,hR⟩;obtain⟨G',aY,rfl,a1,a2,a3⟩:=hR.ex;refine⟨_,rfl,?_,hf w' a3,λk hk=>by rcases a2 with e|e<;>(simp only[Value.ownBlock,Option.some.injEq]at hk|-;omega)⟩
  have:=ey.row (lo:=lo) a1 (by rcases a2 with e|e<;>omega)
  rwa[fM]at this
 obtain rfl:l=[]:=List.eq_nil_of_length_eq_zero (by omega)
 obtain rfl:k=0:=by simpa using hk
 have bM:∀ty,∃v' w',(Builtin.append_ #[eM,eM] ty #[.slice (some ⟨G,0,none⟩) 0 cap,.slice (some ⟨X,0,none⟩) 1 1]).run prog w=.ok v' w'/\o9 lo w (.slice (some ⟨G,0,none⟩) 0 cap) (fj [] 0 x) v' w':=λty=>by
  obtain⟨v',w',hr,ho,hg,uV⟩:=mJ w lo (.slice (some ⟨G,0,none⟩) 0 cap) [] [x] ty ⟨X,0,none⟩ 1 1 h rfl (λi hi j u hu=>by
   have dC:i=0:=by simp at hi;omega
   subst dC;have:=aE.get j u hu;rwa[show 0*2+j=j from by omega]) (by simp) bq
  exact⟨v',w',hr,ho,(Fp.refl _ w).grown hg (λk hk=>.inl hk),uV⟩
 have HA:=Lib.hid bM;have hm:=h1.most;unfold maxLen at hm;clear bM h hk hX aE hl h1 hf h0;simp only[List.length_nil]
 go_enter func278,ntmps278
 go_wp2_with (at_builtin;go_must (refine aG rfl _ _ _ _ rfl _ _ rfl rfl (o9 lo w (.slice (some ⟨G,0,none⟩) 0 cap) (fj [] 0 x)) (HA eM) ?_))
 all_goals
  intro v2 w2 cN;have HR:=Lib.hid cN;clear cN;go_wp2;go_ret;exact⟨_,rfl,HR.out⟩
theorem yq{lo:Nat}{w:World}{v:Value}{l:List Tu}(h:ey lo w v l)(k:Nat)(hk:k<l.length)(hl:l.length<=4000):
  Calls prog 277 #[v,.int .i64 (k:Int),.int .i64 ((k:Int)+1)] w λe w'=>∃v',e=.returned v'/\o9 lo w v (l.eraseIdx k) v' w':=by
 rcases h.ways with⟨rfl,rfl⟩|⟨G,cap,rfl,h1,h2⟩
 ·simp at hk
 refine(Eg h1 k hk hl).mono ?_;rintro e w'⟨rfl,a1,a2⟩;refine⟨_,rfl,?_,a2.mono (λk hk=>by rw[hk];rfl),λk hk=>.inl hk⟩
 have:=ey.row (lo:=lo) a1 h2;rwa[List.length_eraseIdx,if_pos hk]at this
end Go.Proofs.YtgafcelloiagmaaGreatDoor
