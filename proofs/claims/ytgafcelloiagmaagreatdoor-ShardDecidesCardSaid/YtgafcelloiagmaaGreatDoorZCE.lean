/- A text of this proof. -/
import Derived.Lib.AppendIntMem
import Derived.Test.YtgafcelloiagmaaGreatDoorZCA
import Derived.Test.YtgafcelloiagmaaGreatDoorZCB
set_option maxHeartbeats 16000000
set_option linter.unusedSimpArgs false
set_option linter.unusedVariables false
set_option maxRecDepth 20000
namespace Go.Proofs.YtgafcelloiagmaaGreatDoor
open Go.Proofs.Tryz
namespace Pm
open Go.Proofs.Tryz
theorem CC:∀(k:Nat) (l:Bs),pl k (l.take (pl k l))=pl k l
 |0,l=>by simp[pl]
 |k+1,[]=>by simp[pl]
 |k+1,c::r=>by
  by_cases h:okB c=true
  ·simp[pl,h,CC k r]
  simp[pl,h]
theorem Ii:∀(k:Nat) (p r:Bs),pl k p=p.length->(r=[]\/∃t,r=47::t)->pl k (p++r)=p.length
 |0,[],r,_,_=>by simp[pl]
 |0,c::p,r,h,_=>by simp[pl]at h
 |k+1,[],r,_,h=>by
  rcases h with rfl|⟨t,rfl⟩
  ·simp[pl]
  simp[pl,show okB 47=false from by decide]
 |k+1,c::p,r,h,hr=>by
  by_cases hc:okB c=true
  ·simp[pl,hc]at h|-
   exact Ii k p r h hr
  simp[pl,hc]at h
theorem jo(p:Bs):cM p=true↔p≠[]/\pl 12 p=p.length:=by
 unfold cM;cases p<;>simp
theorem fu{p:Bs}(h:cM p=true):1<=p.length/\p.length<=12:=by
 rw[jo]at h;have:=E6 12 p;cases p with
 |nil=>exact absurd rfl h.1
 |cons c r=>simp at h|-;omega
theorem DP(r:List Bs):flat r=[]\/∃t,flat r=47::t:=by
 cases r with
 |nil=>exact Or.inl rfl
 |cons p r=>exact Or.inr ⟨_,dZ p r⟩
theorem xV{r:List Bs}(h:flat r=[]):r=[]:=by
 cases r with
 |nil=>rfl
 |cons p r=>rw[dZ]at h;cases h
theorem Ij(p:Bs)(r:List Bs)(h:cM p=true):cut (flat (p::r))=(p,flat r):=by
 rw[jo]at h;rw[dZ];have e:=Ii 12 p (flat r) h.2 (DP r);simp[cut,e]
theorem Ik{l:Bs}(h:(cut l).1≠[]):cM (cut l).1=true/\l=47::((cut l).1++(cut l).2):=by
 rw[jo];cases l with
 |nil=>exact absurd rfl h
 |cons c r=>?_
 by_cases hc:c=47
 ·subst hc
  simp[cut]at h|-
  refine⟨h,?_⟩;rw[CC];have:=zo 12 r;omega
 simp[cut,hc]at h
def gb(ps:List Bs):Prop:=ps.length<=6/\∀p∈ps,cM p=true
theorem oF:∀(n:Nat) (l:Bs) (ps:List Bs),eW n l=some ps->ps≠[]/\ps.length<=n/\(∀p∈ps,cM p=true)/\flat ps=l
 |0,l,ps,h=>by simp[eW]at h
 |n+1,l,ps,h=>by
  unfold eW at h;by_cases h1:(cut l).1=[]
  ·simp[h1]at h
  have hm:=Ik h1;rw[if_neg h1]at h;by_cases h2:(cut l).2=[]
  ·rw[if_pos h2]at h
   injection h with h;subst h
   refine⟨by simp,by simp,?_,?_⟩
   ·intro p hp;simp at hp;subst hp;exact hm.1
   rw[dZ,wh];rw[h2]at hm;exact hm.2.symm
  rw[if_neg h2]at h;cases hr:eW n (cut l).2 with
  |none=>simp[hr]at h
  |some qs=>?_
  simp[hr]at h;subst h
  have ih:=oF n _ _ hr;refine⟨by simp,by simpa using ih.2.1,?_,?_⟩
  ·intro p hp;simp at hp
   rcases hp with rfl|hp
   ·exact hm.1
   exact ih.2.2.1 p hp
  rw[dZ,ih.2.2.2];exact hm.2.symm
theorem oG:∀(n:Nat) (ps:List Bs),ps≠[]->ps.length<=n->(∀p∈ps,cM p=true)->eW n (flat ps)=some ps
 |_,[],h,_,_=>absurd rfl h
 |0,p::r,_,h,_=>by simp at h
 |n+1,p::r,_,hl,hp=>by
  have hc:=Ij p r (hp p (by simp))
  have EP:=(jo p).1 (hp p (by simp))
  unfold eW;rw[hc];simp only
  rw[if_neg EP.1];by_cases hr:r=[]
  ·subst hr;rw[if_pos wh]
  rw[if_neg (λh=>hr (xV h)),oG n r hr (by simpa using hl) (λq hq=>hp q (by simp[hq]))]
  rfl
theorem bL(l:Bs)(ps:List Bs):split l=some ps↔gb ps/\gB ps=l:=by
 unfold split gb;by_cases hl:l=[47]
 ·subst hl
  rw[if_pos rfl];constructor
  ·intro h;injection h with h;subst h;exact⟨⟨by simp,by simp⟩,rfl⟩
  rintro⟨⟨_,hp⟩,hj⟩;cases ps with
  |nil=>rfl
  |cons p r=>?_
  have:=(fu (hp p (by simp))).1
  rw[gC,dZ]at hj;simp at hj
  rw[hj.1]at this;simp at this
 rw[if_neg hl];constructor
 ·intro h
  have:=oF 6 l ps h;refine⟨⟨this.2.1,this.2.2.1⟩,?_⟩;cases ps with
  |nil=>exact absurd rfl this.1
  |cons p r=>rw[gC];exact this.2.2.2
 rintro⟨⟨hn,hp⟩,rfl⟩;cases ps with
 |nil=>exact absurd rfl hl
 |cons p r=>rw[gC];exact oG 6 _ (by simp) hn hp
theorem jq{ps:List Bs}(h:gb ps):split (gB ps)=some ps:=(bL _ _).2 ⟨h,rfl⟩
theorem gb.lens{ps:List Bs}(h:gb ps):Pm.lens ps<=72:=by
 obtain⟨hn,hp⟩:=h
 have key:∀(qs:List Bs),(∀p∈qs,cM p=true)->Pm.lens qs<=12*qs.length:=by
  intro qs;induction qs with
  |nil=>intro _;simp[Pm.lens]
  |cons q r ih=>
   intro h;have h1:=(fu (h q (by simp))).2
   have h2:=ih (λp hp=>h p (by simp[hp]))
   simp[Pm.lens]at h2|-;omega
 have:=key ps hp;omega
def parent(l:Bs):Option Bs:=match split l with
 |some (p::r)=>some (gB (p::r).dropLast)
 |_=>none
def last(l:Bs):Bs:=match split l with
 |some (p::r)=>(p::r).getLast (by simp)
 |_=>[]
def join(l q:Bs):Option Bs:=match split l with
 |some ps=>if cM q=true/\ps.length<6 then some (gB (ps++[q])) else none
 |none=>none
def lR(l q:Bs):Bool:=match split l,split q with
 |some a,some b=>b.isPrefixOf a
 |_,_=>false
def DQ(n:Nat):Bs:=[UInt8.ofNat (48+n / 1000),UInt8.ofNat (48+n / 100 % 10),UInt8.ofNat (48+n / 10 % 10),UInt8.ofNat (48+n % 10)]
def bH(p:Bs)(n:Int):Option Bs:=if 0<=n/\n<=9999/\cM (p++DQ n.toNat)=true then some (p++DQ n.toNat) else none
end Pm
namespace Pm
open Go.Proofs.Tryz
theorem gb.init{p:Bs}{r:List Bs}(h:gb (p::r)):gb (p::r).dropLast:=by
 obtain⟨h1,h2⟩:=h;refine⟨by simp at h1|-;omega,λq hq=>h2 q (List.dropLast_subset _ hq)⟩
theorem gb.snoc{ps:List Bs}{q:Bs}(h:gb ps)(hn:ps.length<6)(hq:cM q=true):gb (ps++[q]):=by
 obtain⟨h1,h2⟩:=h;refine⟨by simp;omega,λx hx=>?_⟩
 rw[List.mem_append]at hx;rcases hx with hx|hx
 ·exact h2 x hx
 simp at hx;subst hx;exact hq
theorem dK{ps:List Bs}(h:gb ps):(gB ps).length<=100:=by
 have h1:=h.1;have h2:=h.lens;cases ps with
 |nil=>simp[gB,jn]
 |cons p r=>rw[gC,iG];omega
theorem hZ{l a:Bs}(h:parent l=some a):
  ∃ps,split l=some ps/\join a (last l)=some l/\a.length<=100/\(last l).length<=100/\l.length<=100/\lR l a=true/\lR a l=false:=by
 unfold parent at h;split at h
 ·rename_i p r hs
  injection h with h;subst h
  have hP:=((bL _ _).1 hs);have hI:=hP.1.init;have hl:last l=(p::r).getLast (by simp):=by unfold last;rw[hs]
  have hq:cM ((p::r).getLast (by simp))=true:=hP.1.2 _ (List.getLast_mem _)
  have ay:(p::r).dropLast.length<6:=by have:=hP.1.1;simp at this|-;omega
  refine⟨p::r,hs,?_,dK hI,?_,?_,?_,?_⟩
  ·rw[hl];unfold join
   rw[jq hI];simp only
   rw[if_pos ⟨hq,ay⟩,List.dropLast_concat_getLast,hP.2]
  ·rw[hl];have:=(fu hq).2;omega
  ·rw[<-hP.2];exact dK hP.1
  ·unfold lR;rw[hs,jq hI]
   simp only[List.isPrefixOf_iff_prefix]
   exact List.dropLast_prefix _
  unfold lR;rw[hs,jq hI];simp only
  rw[<-Bool.not_eq_true,List.isPrefixOf_iff_prefix];intro hh;have:=hh.length_le;simp at this;omega
 cases h
theorem oH{l:Bs}(h:parent l=none):(split l).isSome=(l == [47])/\last l=[]:=by
 unfold parent at h;split at h
 ·cases h
 rename_i hx
 cases hs:split l with
 |none=>
  refine⟨?_,by unfold last;rw[hs]⟩
  have:l≠[47]:=by rintro rfl;cases hs
  simpa using this
 |some ps=>?_
 cases ps with
 |nil=>
  have:=((bL _ _).1 hs).2;refine⟨?_,by unfold last;rw[hs]⟩
  rw[<-this];rfl
 |cons p r=>exact absurd hs (hx p r)
theorem join_some{l q c:Bs}(h:join l q=some c):∃cs,split c=some cs/\parent c=some l/\last c=q/\c.length<=100:=by
 unfold join at h;split at h
 ·rename_i ps hs
  split at h
  ·rename_i hc
   injection h with h;subst h
   have hP:=(bL _ _).1 hs;have hS:=hP.1.snoc hc.2 hc.1;have h1:=jq hS;refine⟨_,h1,?_,?_,dK hS⟩
   ·unfold parent;rw[h1]
    cases hh:ps++[q] with
    |nil=>simp at hh
    |cons a b=>simp only;rw[<-hh];simp[hP.2]
   unfold last;rw[h1];cases hh:ps++[q] with
   |nil=>simp at hh
   |cons a b=>simp only[<-hh];simp
  cases h
 cases h
theorem LC{p:Bs}{ps:List Bs}(h:split p=some ps):lR p p=true:=by
 unfold lR;rw[h];simp only[List.isPrefixOf_iff_prefix];exact List.prefix_refl _
theorem gb.take{ps:List Bs}(h:gb ps)(k:Nat):gb (ps.take k):=
 ⟨by have:=h.1;rw[List.length_take];omega,λp hp=>h.2 p (List.mem_of_mem_take hp)⟩
end Pm
namespace Pm
open Go.Proofs.Tryz
structure Nd where
 path:Bs
 data:Bs
 aX:Int
 turn:Int
 own:Int
deriving DecidableEq
structure fD where
 kind:Int
 path:Bs
 data:Bs
 aX:Int
 own:Int
 turns:Bool
deriving DecidableEq
structure dp where
 err:Int
 path:Bs
 data:Bs
 aX:Int
 names:List Bs
deriving DecidableEq
def dp.bad(e:Int):dp:=⟨e,[],[],0,[]⟩
abbrev lt(a b:Bs):Bool:=Op.bytesLess a b
theorem jr(a:Bs):lt a []=false:=by cases a<;>rfl
theorem pT(a b:UInt8)(x y:Bs):lt (a::x) (b::y)=(decide (a<b)||(a == b && lt x y)):=rfl
theorem lt_irrefl:∀a:Bs,lt a a=false
 |[]=>rfl
 |c::a=>by rw[pT,lt_irrefl a];simp
theorem lt_trans:∀{a b c:Bs},lt a b=true->lt b c=true->lt a c=true
 |_,_,[],_,h=>by rw[jr]at h;cases h
 |_,[],_::_,h,_=>by rw[jr]at h;cases h
 |[],_::_,_::_,_,_=>rfl
 |x::a,y::b,z::c,h,k=>by
  rw[pT]at h k|-;simp only[Bool.or_eq_true,Bool.and_eq_true,decide_eq_true_eq,beq_iff_eq]at h k|-
  rcases h with h|⟨rfl,h⟩<;>rcases k with k|⟨rfl,k⟩
  ·exact .inl (UInt8.lt_trans h k)
  ·exact .inl h
  ·exact .inl k
  exact .inr ⟨rfl,lt_trans h k⟩
theorem qT:∀(a b:Bs),lt a b=false->lt b a=false->a=b
 |[],[],_,_=>rfl
 |[],_::_,h,_=>by cases h
 |_::_,[],_,h=>by cases h
 |x::a,y::b,h,k=>by
  rw[pT]at h k;simp only[Bool.or_eq_false_iff,Bool.and_eq_false_iff,decide_eq_false_iff_not,beq_eq_false_iff_ne]at h k
  have e:x=y:=UInt8.le_antisymm (UInt8.not_lt.1 k.1) (UInt8.not_lt.1 h.1);subst e;have h2:=h.2.resolve_left (λf=>f rfl)
  have k2:=k.2.resolve_left (λf=>f rfl)
  rw[qT a b h2 k2]
theorem lt_asymm{a b:Bs}(h:lt a b=true):lt b a=false:=by
 cases k:lt b a with
 |false=>rfl
 |true=>have:=lt_trans h k;rw[lt_irrefl]at this;cases this
theorem gY{a b:Bs}(h:lt a b=true):a≠b:=by
 rintro rfl;rw[lt_irrefl]at h;cases h
theorem lr{a b:Bs}(h:lt a b=false)(k:a≠b):lt b a=true:=by
 cases h2:lt b a with
 |true=>rfl
 |false=>exact absurd (qT a b h h2) k
theorem oI{a b c:Bs}(h:lt b a=false)(k:lt b c=true):lt a c=true:=by
 by_cases e:b=a
 ·subst e;exact k
 exact lt_trans (lr h e) k
theorem lt_le_trans{a b c:Bs}(h:lt a b=true)(k:lt c b=false):lt a c=true:=by
 by_cases e:c=b
 ·subst e;exact h
 exact lt_trans h (lr k e)
def find(l:List Nd)(p:Bs):Option Nd:=l.find? (λn=>n.path == p)
def Nx(n:Nd):Bool:=decide (n.data.length<=256/\0<=n.aX/\n.aX<=281474976710656/\0<=n.turn/\n.turn<=10000/\0<=n.own/\n.own<=1099511627776/\(n.own=0\/n.turn=0))
def free(l:List Nd)(u:Bs):Bool:=match find l u with
 |some x=>x.own == 0
 |none=>false
def po(l:List Nd)(n:Nd):Bool:=match parent n.path with
 |some u=>free l u
 |none=>false
def kR:List Nd->Prop
 |[]=>True
 |[_]=>True
 |a::b::r=>lt a.path b.path=true/\kR (b::r)
structure Tree(l:List Nd):Prop where
 pos:0<l.length
 most:l.length<=512
 root:(l[0]'pos).path=[47]
 free:(l[0]'pos).own=0
 fit:∀i (h:i<l.length),Nx l[i]=true
 up:∀i (h:i+1<l.length),lt l[i].path l[i+1].path=true
 lie:∀i (h:i<l.length),0<i->po l l[i]=true
open Classical in
noncomputable def right(l:List Nd):Bool:=decide (Tree l)
def fw(l:List Nd):Prop:=∀i j (hi:i<l.length) (hj:j<l.length),i<j->lt l[i].path l[j].path=true
theorem AL{l:List Nd}(h:∀i (h:i+1<l.length),lt l[i].path l[i+1].path=true):fw l:=by
 intro i j hi hj jR;obtain⟨d,rfl⟩:∃d,j=i+1+d:=⟨j-(i+1),by omega⟩
 clear jR;induction d with
 |zero=>exact h i hj
 |succ d ih=>exact lt_trans (ih (by omega)) (h (i+1+d) (by omega))
theorem Tree.kR{l:List Nd}(h:Tree l):fw l:=AL h.up
theorem fw.step{l:List Nd}(h:fw l):∀i (hi:i+1<l.length),lt l[i].path l[i+1].path=true:=λi hi=>h i (i+1) (by omega) hi (by omega)
theorem fw.inj{l:List Nd}(h:fw l){i j:Nat}(hi:i<l.length)(hj:j<l.length)(e:l[i].path=l[j].path):i=j:=by
 rcases Nat.lt_trichotomy i j with k|k|k
 ·exact absurd e (gY (h i j hi hj k))
 ·exact k
 exact absurd e.symm (gY (h j i hj hi k))
theorem mR{l:List Nd}:fw l↔l.Pairwise (λa b=>lt a.path b.path=true):=by
 rw[List.pairwise_iff_getElem];rfl
theorem fw.filter{l:List Nd}(h:fw l)(p:Nd->Bool):fw (l.filter p):=mR.2 ((mR.1 h).filter p)
theorem fw.tail{a:Nd}{l:List Nd}(h:fw (a::l)):fw l:=by
 rw[mR]at h|-;exact(List.pairwise_cons.1 h).2
theorem fw.head{a:Nd}{l:List Nd}(h:fw (a::l)):∀b∈l,lt a.path b.path=true:=by
 rw[mR]at h;exact(List.pairwise_cons.1 h).1
theorem gF{l:List Nd}{p:Bs}{x:Nd}(h:find l p=some x):x∈l/\x.path=p:=by
 unfold find at h;exact⟨List.mem_of_find?_eq_some h,by simpa using List.find?_some h⟩
theorem iT{l:List Nd}{p:Bs}:find l p=none↔∀x∈l,x.path≠p:=by
 unfold find;rw[List.find?_eq_none];simp
theorem CD{l:List Nd}(ha:fw l){x:Nd}(h:x∈l):find l x.path=some x:=by
 induction l with
 |nil=>simp at h
 |cons a l ih=>
  rw[List.mem_cons]at h;unfold find;rw[List.find?_cons];rcases h with rfl|h
  ·simp
  rw[show(a.path == x.path)=false from by simpa using gY (ha.head x h)]
  exact ih ha.tail h
theorem Il{l:List Nd}(ha:fw l){p:Bs}{x:Nd}:find l p=some x↔x∈l/\x.path=p:=
 ⟨gF,λ⟨h,e⟩=>e▸CD ha h⟩
end Pm
namespace Pm
open Go.Proofs.Tryz
def place(l:List Nd)(p:Bs):Nat:=l.countP (λn=>lt n.path p)
theorem Gb(l:List Nd)(p:Bs):place l p<=l.length:=List.countP_le_length
theorem xW{l:List Nd}{p:Bs}{k:Nat}(hk:k<=l.length)(h1:∀i (h:i<l.length),i<k->lt l[i].path p=true)
  (h2:∀i (h:i<l.length),k<=i->lt l[i].path p=false):place l p=k:=by
 unfold place;induction l generalizing k with
 |nil=>simp at hk;simp[hk]
 |cons a l ih=>
  cases k with
  |zero=>
   rw[List.countP_eq_zero];intro x hx;obtain⟨i,hi,rfl⟩:=List.getElem_of_mem hx;rw[h2 i hi (Nat.zero_le _)];simp
  |succ k=>?_
  rw[List.countP_cons,show lt a.path p=true from h1 0 (by simp) (by omega)]
  rw[ih (k:=k) (by simpa using hk) (λi h NK=>by have:=h1 (i+1) (by simpa using h) (by omega);rwa[List.getElem_cons_succ]at this) (λi h NK=>by have:=h2 (i+1) (by simpa using h) (by omega);rwa[List.getElem_cons_succ]at this)]
  simp
theorem js(a:Nd)(l:List Nd)(p:Bs):place (a::l) p=place l p+if lt a.path p=true then 1 else 0:=by
 unfold place;rw[List.countP_cons]
theorem DR{l:List Nd}(ha:fw l)(p:Bs):∀i (h:i<l.length),(lt l[i].path p=true↔i<place l p):=by
 induction l with
 |nil=>intro i h;simp at h
 |cons a l ih=>
  intro i h;rw[js];by_cases hb:lt a.path p=true
  ·rw[if_pos hb]
   cases i with
   |zero=>simpa using hb
   |succ i=>simpa using ih ha.tail i (by simpa using h)
  rw[if_neg hb]
  have z:place l p=0:=by
   unfold place;rw[List.countP_eq_zero];intro x hx;have:=ha.head x hx;intro hc;exact hb (lt_trans this hc)
  rw[z];cases i with
  |zero=>simpa using hb
  |succ i=>?_
  have:=ha.head (l[i]'(by simpa using h)) (List.getElem_mem _)
  simp only[List.getElem_cons_succ]
  constructor
  ·intro hc;exact absurd (lt_trans this hc) hb
  intro hc;omega
theorem Im{l:List Nd}(ha:fw l){i:Nat}(h:i<l.length):place l l[i].path=i:=by
 have k:=DR ha l[i].path;have h1:=k i h;rw[lt_irrefl]at h1;simp at h1
 rcases Nat.lt_or_ge i (place l l[i].path) with h2|h2
 ·omega
 rcases Nat.lt_or_ge (place l l[i].path) i with h3|h3
 ·exact absurd ((k _ (Nat.lt_trans h3 h)).1 (ha _ _ (Nat.lt_trans h3 h) h h3)) (Nat.lt_irrefl _)
 omega
theorem ml{l:List Nd}(ha:fw l){p:Bs}{x:Nd}(h:find l p=some x):∃hk:place l p<l.length,l[place l p]=x:=by
 obtain⟨hm,rfl⟩:=gF h;obtain⟨i,hi,rfl⟩:=List.getElem_of_mem hm;have e:=Im ha hi;exact⟨by rw[e];exact hi,by simp only[e]⟩
theorem lY{l:List Nd}(ha:fw l)(p:Bs):find l p=if h:place l p<l.length then (if (l[place l p]).path=p then some l[place l p] else none) else none:=by
 cases hf:find l p with
 |some x=>
  obtain⟨hk,e⟩:=ml ha hf;rw[dif_pos hk,e,if_pos (gF hf).2]
 |none=>?_
 split
 ·rename_i h
  rw[if_neg];exact iT.1 hf _ (List.getElem_mem _)
 rfl
theorem UF{l:List Nd}(ha:fw l){i:Nat}(hi:i<l.length)(y:Nd)(hy:y.path=l[i].path)(p:Bs):find (l.set i y) p=if p=y.path then some y else find l p:=by
 have UG:fw (l.set i y):=by
  intro a b hA hB eV;simp only[List.length_set]at hA hB
  rw[List.getElem_set,List.getElem_set];split<;>split
  ·omega
  ·rename_i h1 h2;subst h1;rw[hy];exact ha _ _ _ _ eV
  ·rename_i h1 h2;subst h2;rw[hy];exact ha _ _ _ _ eV
  exact ha _ _ _ _ eV
 split
 ·rename_i h;subst h
  exact CD UG (List.mem_set hi y)
 rename_i h
 cases hf:find l p with
 |none=>
  rw[iT]at hf|-;intro x hx;rcases List.mem_or_eq_of_mem_set hx with hx|rfl
  ·exact hf x hx
  exact λe=>h e.symm
 |some x=>?_
 obtain⟨hm,rfl⟩:=gF hf;rw[Il UG];refine⟨?_,rfl⟩;obtain⟨j,hj,rfl⟩:=List.getElem_of_mem hm;have jR:i≠j:=by rintro rfl;exact h hy.symm
 rw[List.mem_iff_getElem];exact⟨j,by simpa using hj,by rw[List.getElem_set_ne jR]⟩
theorem fw.set{l:List Nd}(ha:fw l){i:Nat}(hi:i<l.length)(y:Nd)(hy:y.path=l[i].path):fw (l.set i y):=by
 intro a b hA hB eV;simp only[List.length_set]at hA hB
 rw[List.getElem_set,List.getElem_set];split<;>split
 ·omega
 ·rename_i h1 h2;subst h1;rw[hy];exact ha _ _ _ _ eV
 ·rename_i h1 h2;subst h2;rw[hy];exact ha _ _ _ _ eV
 exact ha _ _ _ _ eV
def ins(l:List Nd)(k:Nat)(x:Nd):List Nd:=l.take k++x::l.drop k
theorem dX(l:List Nd)(k:Nat)(x:Nd):(ins l k x).length=l.length+1:=by
 unfold ins;simp;omega
theorem Io(l:List Nd)(x:Nd):ins l 0 x=x::l:=rfl
theorem Ip(a:Nd)(l:List Nd)(k:Nat)(x:Nd):ins (a::l) (k+1) x=a::ins l k x:=rfl
theorem CE{l:List Nd}{k:Nat}{x y:Nd}:y∈ins l k x↔y=x\/y∈l:=by
 unfold ins;rw[List.mem_append,List.mem_cons];constructor
 ·rintro(h|h|h)
  ·exact .inr (List.mem_of_mem_take h)
  ·exact .inl h
  exact .inr (List.mem_of_mem_drop h)
 rintro(h|h)
 ·exact .inr (.inl h)
 rw[<-List.take_append_drop k l,List.mem_append]at h;rcases h with h|h
 ·exact .inl h
 exact .inr (.inr h)
theorem fw.cons{a:Nd}{l:List Nd}(h:fw l)(k:∀b∈l,lt a.path b.path=true):fw (a::l):=by
 rw[mR]at h|-;exact List.pairwise_cons.2 ⟨k,h⟩
theorem fw.ins{l:List Nd}(ha:fw l)(x:Nd)(h:find l x.path=none):fw (ins l (place l x.path) x):=by
 induction l with
 |nil=>exact fw.cons (by intro i j hi;simp at hi) (by simp)
 |cons a l ih=>
  have bA:a.path≠x.path:=iT.1 h a (by simp)
  rw[js];by_cases hb:lt a.path x.path=true
  ·rw[if_pos hb,Ip]
   refine fw.cons (ih ha.tail (iT.2 λy hy=>iT.1 h y (by simp[hy]))) ?_
   intro b hm;rw[CE]at hm;rcases hm with rfl|hm
   ·exact hb
   exact ha.head b hm
  rw[if_neg hb]
  have z:place l x.path=0:=by
   unfold place;rw[List.countP_eq_zero];intro y hy hc;exact hb (lt_trans (ha.head y hy) hc)
  rw[z,Nat.zero_add,Io];have Wq:lt x.path a.path=true:=lr (Bool.not_eq_true _▸hb) bA;refine fw.cons ha ?_;intro b hm;rw[List.mem_cons]at hm;rcases hm with rfl|hm
  ·exact Wq
  exact lt_trans Wq (ha.head b hm)
def put:List Nd->Nd->List Nd
 |[],x=>[x]
 |a::l,x=>if lt a.path x.path=true then a::put l x else x::(a::l).filter (λn=>n.path != x.path)
theorem filter_none{l:List Nd}{p:Bs}(h:∀x∈l,x.path≠p):l.filter (λn=>n.path != p)=l:=by
 rw[List.filter_eq_self];intro x hx;simpa using h x hx
theorem erase_eq{l:List Nd}(ha:fw l){p:Bs}(hk:place l p<l.length)(h:(l[place l p]).path=p):l.filter (λn=>n.path != p)=l.eraseIdx (place l p):=by
 induction l with
 |nil=>simp at hk
 |cons a l ih=>
  by_cases hb:lt a.path p=true
  ·have e:place (a::l) p=place l p+1:=by rw[js,if_pos hb]
   simp only[e,List.getElem_cons_succ,List.length_cons]at h hk
   rw[e,List.eraseIdx_cons_succ,List.filter_cons,if_pos (by simpa using gY hb),ih ha.tail (by omega) h]
  have z:place l p=0:=by
   unfold place;rw[List.countP_eq_zero];intro y hy hc;exact hb (lt_trans (ha.head y hy) hc)
  have e:place (a::l) p=0:=by rw[js,if_neg hb,z]
  simp only[e,List.getElem_cons_zero]at h
  rw[e,List.eraseIdx_cons_zero,List.filter_cons,if_neg (by simp[h]),filter_none]
  intro y hy;rw[<-h];exact(gY (ha.head y hy)).symm
def kids(l:List Nd)(p:Bs):List Nd:=l.filter (λn=>parent n.path == some p)
def named(o:fD)(u:Bs)(turn:Int):Option Bs:=if o.turns=true then (bH (last o.path) turn).bind (join u) else some o.path
def may(o:fD):Bool:=
 (split o.path).isSome && decide (o.data.length<=256/\0<=o.own/\o.own<=1099511627776) &&
 (if o.kind=1 then decide (o.path≠[47]/\o.aX=0)
  else if o.kind=2 then decide (o.path≠[47]/\-1<=o.aX/\o.aX<=281474976710656/\o.data=[]/\o.own=0/\o.turns=false)
  else if o.kind=3 then decide (-1<=o.aX/\o.aX<=281474976710656/\o.own=0/\o.turns=false)
  else if o.kind=4 then decide (-1<=o.aX/\o.aX<=281474976710656/\o.data=[]/\o.own=0/\o.turns=false)
  else if o.kind=5\/o.kind=6 then decide (o.aX=0/\o.data=[]/\o.own=0/\o.turns=false)
  else if o.kind=7 then decide (o.aX=0/\o.data=[]/\0<o.own/\o.turns=false)
  else false)
def create(l:List Nd)(o:fD):List Nd×dp:=
 let u:=(parent o.path).getD []
 match find l u with
 |none=>(l,.bad 62)
 |some x=>if x.own≠0 then (l,.bad 65) else match named o u x.turn with
  |none=>(l,.bad 66)
  |some p=>if (find l p).isSome=true then (l,.bad 61) else if l.length=512 then (l,.bad 2) else
    (ins (if o.turns=true then l.set (place l u) { x with turn:=x.turn+1 } else l) (place l p) ⟨p,o.data,0,0,o.own⟩,⟨0,p,[],0,[]⟩)
def Ny(o:fD)(n:Nd):Bool:=n.own == o.own && parent n.path == some o.path
def Y9(l:List Nd)(o:fD)(x:Nd):List Nd×dp:=
 if o.kind=2 then (if kids l o.path=[] then (l.eraseIdx (place l o.path),⟨0,[],[],0,[]⟩) else (l,.bad 64))
 else if o.kind=3 then (if x.aX=281474976710656 then (l,.bad 2) else (l.set (place l o.path) { x with data:=o.data,aX:=x.aX+1 },⟨0,[],[],x.aX+1,[]⟩))
 else if o.kind=4 then (l,⟨0,[],[],x.aX,[]⟩)
 else if o.kind=5 then (l,⟨0,[],x.data,x.aX,[]⟩)
 else if o.kind=6 then (l,⟨0,[],[],0,(kids l o.path).map (λn=>last n.path)⟩)
 else (l.filter (λn=>!Ny o n),⟨0,[],[],0,(l.filter (Ny o)).map (λn=>last n.path)⟩)
def DS(k:Int):Bool:=k == 2||k == 3||k == 4
def perform(l:List Nd)(o:fD):List Nd×dp:=
 if o.kind=1 then create l o
 else match find l o.path with
  |none=>(l,.bad 62)
  |some x=>if DS o.kind=true/\o.aX≠-1/\o.aX≠x.aX then (l,.bad 63) else Y9 l o x
noncomputable def apply(l:List Nd)(o:fD):List Nd×dp:=if right l && may o then perform l o else ([],.bad 1)
end Pm
open Go.RowKit Pm
structure qU(w:World)(g cap:Nat)(ps:List Bs):Prop where
 lt:g<w.heap.size
 room:ps.length<=cap
 most:cap<=maxLen
 cell:∀j (h:j<ps.length),w.cell? ⟨g,j,none⟩=some (au ps[j])
theorem Own.po{b0:Nat}{w:World}{v:Value}{p:Bs}{r:List Bs}(h:Own b0 w v (p::r)):
  ∃g cap,v=.slice (some ⟨g,0,none⟩) (r.length+1) cap/\b0<=g/\qU w g cap (p::r):=by
 obtain⟨ho,_⟩:=h;rcases ho.2 with⟨_,h0⟩|⟨g,cap,cur,rfl,hb,hg,hc,hm,hs,ht⟩
 ·simp at h0
 refine⟨g,cap,rfl,hb,(Array.getElem?_eq_some_iff.1 hg).1,hc,hm,λj hj=>?_⟩
 have:=ho.cellAt j (by simpa using hj)
 rw[this,List.getElem?_map,List.getElem?_eq_getElem hj];rfl
theorem Own.shape{b0:Nat}{w:World}{v:Value}{ps:List Bs}(h:Own b0 w v ps):∃ao cap,v=.slice ao ps.length cap:=by
 cases ps with
 |nil=>exact⟨none,0,h.2 rfl⟩
 |cons p r=>obtain⟨g,cap,rfl,_⟩:=h.po;exact⟨_,_,rfl⟩
theorem qU.below{w w':World}{g cap:Nat}{ps:List Bs}(h:qU w g cap ps){b0:Nat}(hb:Below b0 w w')(hg:g<b0):qU w' g cap ps:=
 ⟨Nat.lt_of_lt_of_le h.lt hb.size,h.room,h.most,λj hj=>by rw[hb.cell (p:=⟨g,j,none⟩) hg];exact h.cell j hj⟩
theorem qU.take{w:World}{g cap:Nat}{ps:List Bs}(h:qU w g cap ps)(k:Nat):qU w g cap (ps.take k):=
 ⟨h.lt,by have:=h.room;rw[List.length_take];omega,h.most,λj hj=>by
  rw[List.getElem_take];exact h.cell j (by rw[List.length_take]at hj;omega)⟩
theorem PU(g cap:Nat)(ps:List Bs)(w:World)(h:qU w g cap ps)(hn:ps.length<=1000)(hl:lens ps<=500000000):
  Calls prog 281 #[.slice (some ⟨g,0,none⟩) ps.length cap,.string ⟨#[47]⟩] w λe w'=>e=.returned (.string (B (jn ps)))/\Below w.heap.size w w':=by
 match ps,h,hn,hl with
 |[],_,_,_=>exact(CR _ cap w).mono λe w' ⟨he,hw⟩=>⟨he,hw▸Below.refl _ _⟩
 |[p],h,_,_=>
  refine(Ff g 0 cap p w (h.cell 0 (by simp))).mono λe w' ⟨he,hw⟩=>⟨?_,hw▸Below.refl _ _⟩
  rw[he];simp[jn,flat]
 |p::q::r,h,hn,hl=>
  exact CS g 0 cap p (q::r) w (λj hj=>by simpa using h.cell j hj) h.lt (by simp) (by simp at hn|-;omega) (by have:=h.room;simpa using this) hl
theorem CF(g cap:Nat)(ps:List Bs)(w:World)(h:qU w g cap ps)(hn:ps.length<=1000)(hl:lens ps<=500000000):
  Calls prog 231 #[.slice (some ⟨g,0,none⟩) ps.length cap] w λe w'=>e=.returned (.string (B (gB ps)))/\Below w.heap.size w w':=by
 have tC:(jn ps).length<=600000000:=by
  cases ps with
  |nil=>simp[jn]
  |cons p r=>have:=iG r;simp[jn,lens]at hl hn this|-;omega
 go_enter func231,ntmps231
 go_wp2_with fail
 refine(PU g cap ps w h hn hl).mono ?_;rintro e w1⟨rfl,hb⟩;go_wp2;go_ret;refine⟨?_,hb⟩;rfl
theorem DT(b0:Nat)(v:Value)(p:Bs)(r:List Bs)(w:World)(h:Own b0 w v (p::r))(hn:(p::r).length<=1000)(hl:lens (p::r)<=500000000):
  Calls prog 231 #[v] w λe w'=>e=.returned (.string (B (gB (p::r))))/\Below w.heap.size w w':=by
 obtain⟨g,cap,rfl,_,mS⟩:=h.po;exact CF g cap (p::r) w mS hn hl
theorem AM(b0:Nat)(v:Value)(ps:List Bs)(q:Bs)(w:World)(h:Own b0 w v (ps++[q]))(hP:gb ps)(hq:cM q=true):
  Calls prog 231 #[v] w λe w'=>e=.returned (.string (B (gB (ps++[q]))))/\Below w.heap.size w w':=by
 have h1:=hP.1;have h2:=hP.lens;have h3:=fu hq;have h4:(ps++[q]).length<=1000:=by simp;omega
 have h5:lens (ps++[q])<=500000000:=by unfold lens at h2|-;rw[List.map_append,List.sum_append];simp;omega
 cases he:ps++[q] with
 |nil=>simp at he
 |cons p r=>rw[he]at h h4 h5;exact DT b0 v p r w h h4 h5
theorem LD(l:Bs)(w:World)(hl:l.length<=4611686018427387904):
  Calls prog 78 #[.string (B l)] w λe w'=>e=.returned (.bool (split l).isSome)/\Below w.heap.size w w':=by
 go_enter func78,ntmps78
 go_wp2_with fail
 refine(dc l w hl).mono ?_;rintro e w1⟨v,rfl,_,hb⟩;go_wp2;go_ret;exact⟨rfl,hb⟩
theorem Iq(l:Bs)(w:World)(hl:l.length<=4611686018427387904):
  Calls prog 168 #[.string (B l)] w λe w'=>e=.returned (.tuple #[.string (B ((parent l).getD [])),.bool (parent l).isSome])/\Below w.heap.size w w':=by
 cases hs:split l with
 |none=>
  have hp:parent l=none:=by unfold parent;rw[hs]
  rw[hp];have HS:=Lib.hid hs;clear hs hp;go_enter func168,ntmps168
  go_wp2_with fail
  refine(dc l w hl).mono ?_;rintro e w1⟨v,rfl,aL,hb⟩;rw[HS.out]at aL|-;go_wp2;go_ret2
  exact⟨rfl,hb⟩
 |some ps=>?_
 cases ps with
 |nil=>
  have hp:parent l=none:=by unfold parent;rw[hs]
  rw[hp];have HS:=Lib.hid hs;clear hs hp;go_enter func168,ntmps168
  go_wp2_with fail
  refine(dc l w hl).mono ?_;rintro e w1⟨v,rfl,aL,hb⟩;rw[HS.out]at aL|-;obtain rfl:=aL.2 rfl;go_wp2;go_ret2
  exact⟨rfl,hb⟩
 |cons p r=>?_
 have hp:parent l=some (gB (p::r).dropLast):=by unfold parent;rw[hs]
 have hP:=((bL _ _).1 hs).1;rw[hp];have HS:=Lib.hid hs;clear hs hp;go_enter func168,ntmps168
 go_wp2_with fail
 refine(dc l w hl).mono ?_;rintro e w1⟨v,rfl,aL,hb⟩;rw[HS.out]at aL|-;obtain⟨g,cap,rfl,hg,mS⟩:=aL.po;have h6:=hP.1;have eN:=mS.room;have fG:=mS.most;unfold maxLen at fG;simp only[List.length_cons]at eN h6
 have hd:(p::r).dropLast=(p::r).take r.length:=by rw[List.dropLast_eq_take];simp
 have hlen:((p::r).take r.length).length=r.length:=by simp
 have wu:=hP.lens;have hw:=CF g cap ((p::r).take r.length) w1 (mS.take _) (by omega) (Nat.le_trans (lens_take_le _ _) (by omega))
 rw[hlen,<-hd]at hw;have HW:=Lib.hid hw;clear hw hlen hd wu mS;go_wp2_with fail
 refine HW.mono ?_;rintro e w2⟨rfl,bW⟩;have uv:=hb.trans (bW.mono hb.size);clear bW;go_wp2;go_ret2
 exact⟨rfl,uv⟩
theorem PV(l:Bs)(w:World)(hl:l.length<=4611686018427387904):
  Calls prog 270 #[.string (B l)] w λe w'=>e=.returned (.string (B (last l)))/\Below w.heap.size w w':=by
 by_cases hs:(split l).getD []=[]
 ·have hp:last l=[]:=by unfold last;cases h:split l with
   |none=>rfl
   |some ps=>rw[h]at hs;cases ps with
    |nil=>rfl
    |cons p r=>simp at hs
  rw[hp];have HS:=Lib.hid hs;clear hs hp;go_enter func270,ntmps270
  go_wp2_with fail
  refine(dc l w hl).mono ?_;rintro e w1⟨v,rfl,aL,hb⟩;rw[HS.out]at aL;obtain rfl:=aL.2 rfl;go_wp2;go_ret;exact⟨rfl,hb⟩
 obtain⟨p,r,Kg⟩:∃p r,split l=some (p::r):=by
  cases h:split l with
  |none=>rw[h]at hs;exact absurd rfl hs
  |some ps=>cases ps with
   |nil=>rw[h]at hs;exact absurd rfl hs
   |cons p r=>exact⟨p,r,rfl⟩
 obtain⟨q,hq⟩:∃q,(p::r)[r.length]'(by simp)=q:=⟨_,rfl⟩
 have hp:last l=q:=by unfold last;rw[Kg,<-hq];simp[List.getLast_eq_getElem]
 have hP:=((bL _ _).1 Kg).1;rw[hp];have HS:=Lib.hid Kg;clear hs Kg hp;go_enter func270,ntmps270
 go_wp2_with fail
 refine(dc l w hl).mono ?_;rintro e w1⟨v,rfl,aL,hb⟩;rw[HS.out]at aL;obtain⟨g,cap,rfl,hg,mS⟩:=aL.po;have h6:=hP.1;simp only[List.length_cons]at h6
 have hc:=mS.cell r.length (by simp)
 rw[hq]at hc;unfold au at hc;clear aL mS hq;go_wp2;go_ret;exact⟨rfl,hb⟩
theorem ib(q:Bs)(w:World)(hl:q.length<=9223372036854775807)(b:Bool)(h:cM q=b):
  Calls prog 286 #[.string (B q)] w λe w'=>e=.returned (.bool b)/\w=w':=by
 rw[<-h];exact E7 q w hl
theorem xX(l q:Bs)(w:World)(hl:l.length<=4611686018427387904)(hq:q.length<=4611686018427387904):
  Calls prog 239 #[.string (B l),.string (B q)] w λe w'=>e=.returned (.tuple #[.string (B ((join l q).getD [])),.bool (join l q).isSome])/\Below w.heap.size w w':=by
 obtain⟨i0,hi,l6,jG,l7⟩:=info_parts Tryz.E8;cases hs:split l with
 |none=>
  have hp:join l q=none:=by unfold join;rw[hs]
  rw[hp];have HS:=Lib.hid hs;clear hs hp;go_enter func239,ntmps239
  go_wp2_with fail
  refine(dc l w hl).mono ?_;rintro e w1⟨v,rfl,aL,hb⟩;rw[HS.out];go_wp2;go_ret2
  exact⟨rfl,hb⟩
 |some ps=>?_
 have hP:=((bL _ _).1 hs).1;have h6:=hP.1;cases hpart:cM q with
 |false=>
  have hp:join l q=none:=by unfold join;rw[hs];simp[hpart]
  rw[hp];have HS:=Lib.hid hs;clear hs hp;have HC:=Lib.hid (λw=>ib q w (by omega) false hpart);clear hpart
  go_enter func239,ntmps239
  go_wp2_with fail
  refine(dc l w hl).mono ?_;rintro e w1⟨v,rfl,aL,hb⟩;rw[HS.out];go_wp2_with fail
  refine(HC _).mono ?_;rintro e w2⟨rfl,rfl⟩;go_wp2;go_ret2
  exact⟨rfl,hb⟩
 |true=>?_
 have HC:=Lib.hid (λw=>ib q w (by omega) true hpart)
 by_cases ay:ps.length<6
 ·have hp:join l q=some (gB (ps++[q])):=by unfold join;rw[hs];simp[hpart,ay]
  rw[hp];have HS:=Lib.hid hs;clear hs hp;have h5:((ps.length:Int) == 6)=false:=beq_eq_false_iff_ne.2 (by omega)
  go_enter func239,ntmps239
  go_wp2_with fail
  refine(dc l w hl).mono ?_;rintro e w1⟨v,rfl,aL,hb⟩;rw[HS.out]at aL|-;have aL:Own w.heap.size w1 v ps:=aL;obtain⟨ao,cap,rfl⟩:=aL.shape;have oj:=hb.size;go_wp2_with fail
  refine(HC _).mono ?_;rintro e w2⟨rfl,rfl⟩;go_wp2_with (at_builtin;go_must (refine wpList_append_own _ rfl _ _ 45 rfl w.heap.size 9 i0 (.string ⟨#[]⟩) 1 16 Tryz.underlying45 hi l6 jG l7 rfl (by decide) _ _ _ rfl (aL.1.alloc _) ⟨w1.heap.size,0,none⟩ 1 1 [au q] rfl rfl (cell_one_new _ _ _) (uo _) (by unfold maxLen;omega) (by omega) (by simp;omega) ?_;intro v' w2 jy jz _))
  obtain⟨hO,hB⟩:=Own.push aL.1 hb oj jy jz;clear jy jz aL;have HW:=Lib.hid (AM w.heap.size v' ps q w2 hO hP hpart);refine HW.mono ?_;rintro e w3⟨rfl,mc⟩;have JO:=hB.trans (mc.mono hB.size);clear mc hO HW;go_wp2;go_ret2
  exact⟨rfl,JO⟩
 have hp:join l q=none:=by unfold join;rw[hs];simp[ay]
 rw[hp];have HS:=Lib.hid hs;clear hs hp;have h5:((ps.length:Int) == 6)=true:=beq_iff_eq.2 (by omega)
 go_enter func239,ntmps239
 go_wp2_with fail
 refine(dc l w hl).mono ?_;rintro e w1⟨v,rfl,aL,hb⟩;rw[HS.out]at aL|-;have aL:Own w.heap.size w1 v ps:=aL;obtain⟨ao,cap,rfl⟩:=aL.shape;go_wp2_with fail
 refine(HC _).mono ?_;rintro e w2⟨rfl,rfl⟩;go_wp2;go_ret2
 exact⟨rfl,hb⟩
theorem xY(a b:List Bs):decide ((b.map B)=(a.map B).take b.length)=b.isPrefixOf a:=by
 rw[Bool.eq_iff_iff,List.isPrefixOf_iff_prefix];simp only[decide_eq_true_eq]
 rw[<-List.map_take,List.map_inj_right (λx y h=>Ri h),List.prefix_iff_eq_take]
theorem LF(g1 c1 g2 c2:Nat)(b a:List Bs)(w:World)(h1:qU w g1 c1 b)(h2:qU w g2 c2 a)(h:b.length<=a.length):
  Calls prog 158 #[.slice (some ⟨g1,0,none⟩) b.length c1,.slice (some ⟨g2,0,none⟩) b.length c2] w λe w'=>e=.returned (.bool (b.isPrefixOf a))/\Dr w w':=by
 have QZ:=h1.most;have Ck:=h1.room;unfold maxLen at QZ;refine(Tryz.slices_Equal_string g1 0 b.length c1 g2 0 b.length c2 (b.map B) (a.map B) w (by simp) (by simpa using h) (by omega) (by omega) ?_ ?_).mono ?_
 ·intro j hj
  simp at hj
  rw[Nat.zero_add,h1.cell j hj];simp[hj,au]
 ·intro j hj
  simp at hj
  rw[Nat.zero_add,h2.cell j hj];simp[hj,au]
 rintro e w'⟨rfl,q,rfl⟩;refine⟨?_,Dr.of _ _⟩;rw[<-xY a b,show List.take b.length (b.map B)=b.map B from List.take_of_length_le (by simp)]
theorem PW(l q:Bs)(w:World)(hl:l.length<=4611686018427387904)(hq:q.length<=4611686018427387904):
  Calls prog 105 #[.string (B l),.string (B q)] w λe w'=>e=.returned (.bool (lR l q))/\Below w.heap.size w w':=by
 cases hs:split l with
 |none=>
  have hp:lR l q=false:=by unfold lR;rw[hs]
  rw[hp];have HS:=Lib.hid hs;clear hs hp;go_enter func105,ntmps105
  go_wp2_with fail
  refine(dc l w hl).mono ?_;rintro e w1⟨v,rfl,aL,hb⟩;rw[HS.out];go_wp2;go_ret;exact⟨rfl,hb⟩
 |some a=>?_
 cases ht:split q with
 |none=>
  have hp:lR l q=false:=by unfold lR;rw[hs,ht]
  rw[hp];have HS:=Lib.hid hs;clear hs hp;have HT:=Lib.hid ht;clear ht;go_enter func105,ntmps105
  go_wp2_with fail
  refine(dc l w hl).mono ?_;rintro e w1⟨v,rfl,aL,hb⟩;rw[HS.out];go_wp2_with fail
  refine(dc q w1 hq).mono ?_;rintro e w2⟨v2,rfl,eA,bW⟩;rw[HT.out];have uv:=hb.trans (bW.mono hb.size);clear bW;go_wp2;go_ret;exact⟨rfl,uv⟩
 |some b=>?_
 have hp:lR l q=b.isPrefixOf a:=by unfold lR;rw[hs,ht]
 rw[hp];have hP:=((bL _ _).1 hs).1;have hQ:=((bL _ _).1 ht).1;have h6:=hP.1;have WI:=hQ.1;have HS:=Lib.hid hs;clear hs hp hP hQ;have HT:=Lib.hid ht;clear ht;go_enter func105,ntmps105
 go_wp2_with fail
 refine(dc l w hl).mono ?_;rintro e w1⟨v,rfl,aL,hb⟩;rw[HS.out]at aL|-;have aL:Own w.heap.size w1 v a:=aL;go_wp2_with fail
 refine(dc q w1 hq).mono ?_;rintro e w2⟨v2,rfl,eA,bW⟩;rw[HT.out]at eA|-;have eA:Own w1.heap.size w2 v2 b:=eA;have uv:=hb.trans (bW.mono hb.size);by_cases ay:a.length<b.length
 ·obtain⟨ao,cap,hv⟩:=aL.shape
  obtain⟨ao2,X6,Nb⟩:=eA.shape
  have UH:b.isPrefixOf a=false:=by
   cases hh:b.isPrefixOf a with
   |false=>rfl
   |true=>rw[List.isPrefixOf_iff_prefix]at hh;have:=hh.length_le;omega
  have HP:=Lib.hid UH;clear UH;subst hv Nb;clear aL eA bW;go_wp2;go_ret;exact⟨aB HP.symm,uv⟩
 by_cases om:b=[]
 ·subst om
  obtain rfl:=eA.2 rfl;obtain⟨ao,cap,rfl⟩:=aL.shape;clear aL eA bW;go_wp2_with fail
  all_goals (
   refine(Tryz.slices_Equal_string_empty _ _ _ 0 _ w2 (by omega)).mono ?_
   rintro e w3⟨rfl,rfl⟩;go_wp2;go_ret;exact⟨aB rfl,uv⟩)
 obtain⟨p,r,rfl⟩:∃p r,b=p::r:=by cases b with|nil=>exact absurd rfl om|cons p r=>exact⟨p,r,rfl⟩
 obtain⟨p',r',rfl⟩:∃p r,a=p::r:=by cases a with|nil=>simp at ay|cons p r=>exact⟨p,r,rfl⟩
 obtain⟨g,c,hv,hg,Ir⟩:=aL.po;obtain⟨g2,c2,Nb,Qx,UI⟩:=eA.po;have hE:=Lib.hid (LF g2 c2 g c (p::r) (p'::r') w2 UI (Ir.below bW Ir.lt) (by omega))
 have eN:=Ir.room;have QZ:=Ir.most;unfold maxLen at QZ;subst hv Nb;clear aL eA bW Ir UI;simp only[List.length_cons]at h6 WI ay eN
 go_wp2_with fail
 refine hE.mono ?_;rintro e w3⟨rfl,hd⟩;have mc:=uv.trans (hd.below _);clear hd;go_wp2;go_ret;exact⟨rfl,mc⟩
theorem four(n:Nat)(h:n<=9999):(Lib.itoa n).length<=4/\([48,48,48,48].drop (Lib.itoa n).length).take (4-(Lib.itoa n).length)++Lib.itoa n=DQ n:=by
 have e:Lib.itoa n=Lib.decDigits n:=by unfold Lib.itoa;rw[if_neg (by omega)];rfl
 rw[e];by_cases h1:n<10
 ·have d:Lib.decDigits n=[UInt8.ofNat (48+n)]:=by rw[Lib.decDigits,dif_pos h1]
  rw[d];refine⟨by simp,?_⟩
  simp[DQ,show n / 1000=0 by omega,show n / 100=0 by omega,show n / 10=0 by omega,Nat.mod_eq_of_lt h1]
 by_cases h2:n<100
 ·have d:Lib.decDigits n=[UInt8.ofNat (48+n / 10),UInt8.ofNat (48+n % 10)]:=by
   rw[Lib.decDigits,dif_neg h1,Lib.decDigits,dif_pos (by omega)];rfl
  rw[d];refine⟨by simp,?_⟩
  simp[DQ,show n / 1000=0 by omega,show n / 100=0 by omega,show n / 10 % 10=n / 10 by omega]
 by_cases h3:n<1000
 ·have d:Lib.decDigits n=[UInt8.ofNat (48+n / 100),UInt8.ofNat (48+n / 10 % 10),UInt8.ofNat (48+n % 10)]:=by
   rw[Lib.decDigits,dif_neg h1,Lib.decDigits,dif_neg (by omega),Lib.decDigits,dif_pos (by omega),Nat.div_div_eq_div_mul];rfl
  rw[d];refine⟨by simp,?_⟩
  simp[DQ,show n / 1000=0 by omega,show n / 100 % 10=n / 100 by omega]
 have d:Lib.decDigits n=[UInt8.ofNat (48+n / 1000),UInt8.ofNat (48+n / 100 % 10),UInt8.ofNat (48+n / 10 % 10),UInt8.ofNat (48+n % 10)]:=by
  rw[Lib.decDigits,dif_neg h1,Lib.decDigits,dif_neg (by omega),Lib.decDigits,dif_neg (by omega),Lib.decDigits,dif_pos (by omega),show n / 10 / 10 / 10=n / 1000 by omega,show n / 10 / 10=n / 100 by omega];rfl
 rw[d];refine⟨by simp,?_⟩
 simp[DQ]
theorem AO(p:Bs)(n:Int)(w:World)(hp:p.length<=4611686018427387904)(Aw:-9223372036854775808<=n)(si:n<=9223372036854775807)
  (ht:n<100\/Lib.TabIs prog w "internal/strconv.uint64pow10" .u64 Lib.pow10Tab):
  Calls prog 269 #[.string (B p),.int .i64 n] w λe w'=>e=.returned (.tuple #[.string (B ((bH p n).getD [])),.bool (bH p n).isSome])/\Below w.heap.size w w':=by
 by_cases h1:n<0
 ·have j7:bH p n=none:=by unfold bH;rw[if_neg (by omega)]
  rw[j7];clear j7 ht;go_enter func269,ntmps269
  go_wp2;go_ret2
  exact⟨rfl,Below.refl _ _⟩
 by_cases h2:9999<n
 ·have j7:bH p n=none:=by unfold bH;rw[if_neg (by omega)]
  rw[j7];clear j7 ht;go_enter func269,ntmps269
  go_wp2;go_ret2
  exact⟨rfl,Below.refl _ _⟩
 by_cases h3:12<p.length
 ·have j7:bH p n=none:=by
   unfold bH;rw[if_neg];rintro⟨_,_,h⟩;have:=(fu h).2;simp at this;omega
  rw[j7];clear j7 ht;go_enter func269,ntmps269
  go_wp2;go_ret2
  exact⟨rfl,Below.refl _ _⟩
 obtain⟨k,rfl⟩:=Int.eq_ofNat_of_zero_le (Int.not_lt.1 h1)
 have hI:Calls prog 328 #[.int .i64 (k:Int)] w λe w'=>e=.returned (.string (B (Lib.itoa k)))/\Below w.heap.size w w':=by
  rcases ht with ht|ht
  ·refine(Tryz.strconv_Itoa_small k (by omega) w).mono ?_
   rintro e w'⟨rfl,rfl⟩;refine⟨?_,Below.refl _ _⟩;show Ending.returned (.string (B (Lib.decDigits k)))=_
   unfold Lib.itoa;rw[if_neg (by omega)];rfl
  refine(Tryz.strconv_Itoa k (by omega) (by omega) w ht).mono ?_
  rintro e w'⟨rfl,q,os,rfl⟩;exact⟨rfl,Lib.below_grow _ w (Nat.le_refl _) q os⟩
 obtain⟨hlen,h4⟩:=four k (by omega)
 have HI:=Lib.hid hI;clear hI;have H4:=Lib.hid h4;clear h4 ht;generalize Lib.itoa (k:Int)=d at HI H4 hlen;cases hpart:cM (p++DQ k) with
 |false=>
  have j7:bH p k=none:=by unfold bH;rw[if_neg];rintro⟨_,_,h⟩;rw[Int.toNat_natCast,hpart]at h;cases h
  rw[j7];have HC:=Lib.hid (λw hl=>ib (p++DQ k) w hl false hpart);clear hpart j7
  go_enter func269,ntmps269
  go_wp2_with fail
  refine HI.mono ?_;rintro e w1⟨rfl,hb⟩;go_wp2_with fail
  rw[H4.out];refine(HC _ (by simp[DQ];omega)).mono ?_
  rintro e w2⟨rfl,rfl⟩;go_wp2;go_ret2
  exact⟨rfl,hb⟩
 |true=>?_
 have j7:bH p k=some (p++DQ k):=by unfold bH;rw[if_pos];rw[Int.toNat_natCast];exact⟨by omega,by omega,by rw[Int.toNat_natCast];exact hpart⟩
 rw[j7];have HC:=Lib.hid (λw hl=>ib (p++DQ k) w hl true hpart);clear hpart j7
 go_enter func269,ntmps269
 go_wp2_with fail
 refine HI.mono ?_;rintro e w1⟨rfl,hb⟩;go_wp2_with fail
 rw[H4.out];refine(HC _ (by simp[DQ];omega)).mono ?_
 rintro e w2⟨rfl,rfl⟩;go_wp2;go_ret2
 exact⟨rfl,hb⟩
end Go.Proofs.YtgafcelloiagmaaGreatDoor
