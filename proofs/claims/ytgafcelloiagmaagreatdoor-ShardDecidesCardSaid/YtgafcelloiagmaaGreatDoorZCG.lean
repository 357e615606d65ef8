/- A text of this proof. -/
import Derived.Test.YtgafcelloiagmaaGreatDoorZCE
set_option maxHeartbeats 16000000
set_option linter.unusedSimpArgs false
set_option linter.unusedVariables false
set_option maxRecDepth 20000
namespace Go.Proofs.YtgafcelloiagmaaGreatDoor
open Go.Proofs.Tryz
section
open Pm
structure Wt where
 s:Int
 n:Int
 p:Bs
 d:Bool
deriving DecidableEq
structure Ev where
 num:Int
 kind:Int
 p:Bs
 wt:Int
deriving DecidableEq
structure Se where
 num:Int
 count:Int
 cW:List Ev
deriving DecidableEq
structure Wd where
 ws:List Wt
 ss:List Se
deriving DecidableEq
def tj:Int:=281474976710656
def rX(n:Int):Bool:=decide (1<=n/\n<=tj)
def Dj(x:Wt):Bool:=rX x.s && rX x.n && (split x.p).isSome
def hit(s n:Int)(x:Wt):Bool:=decide (x.s=s/\x.n=n)
def Gs(num:Int)(e:Ev):Bool:=decide (e.num=num/\1<=e.kind/\e.kind<=4) && (split e.p).isSome && rX e.wt
def xh(s:Se):Bool:=rX s.num && decide (0<=s.count/\s.count<=tj/\s.cW.length<=8/\(s.cW.length:Int)<=s.count) && decide (∀i (h:i<s.cW.length),Gs (s.count-s.cW.length+1+i) s.cW[i]=true)
def mH(ws:List Wt)(i:Nat):Bool:=if h:i<ws.length then Dj ws[i] && !(ws.take i).any (hit ws[i].s ws[i].n) else true
def mI(ss:List Se)(i:Nat):Bool:=if h:i<ss.length then xh ss[i] && (if h0:0<i then decide (ss[i-1].num<ss[i].num) else true) else true
def eF(d:Wd):Bool:=decide (d.ws.length<=64/\(∀i,i<d.ws.length->mH d.ws i=true)/\∀i,i<d.ss.length->mI d.ss i=true)
def RW(ws:List Wt):Prop:=(∀x∈ws,Dj x=true)/\ws.Pairwise (λa b=>¬(a.s=b.s/\a.n=b.n))
def RS(ss:List Se):Prop:=(∀x∈ss,xh x=true)/\ss.Pairwise (λa b=>a.num<b.num)
theorem PX(ws:List Wt):(∀i,i<ws.length->mH ws i=true)↔RW ws:=by
 constructor
 ·intro h
  refine⟨λx hx=>?_,?_⟩
  ·obtain⟨i,hi,rfl⟩:=List.mem_iff_getElem.1 hx
   have:=h i hi;unfold mH at this;rw[dif_pos hi]at this;simp only[Bool.and_eq_true]at this
   exact this.1
  rw[List.pairwise_iff_getElem];intro i j hi hj jR;have:=h j hj;unfold mH at this;rw[dif_pos hj]at this;simp only[Bool.and_eq_true,Bool.not_eq_true',List.any_eq_false]at this
  have:=this.2 ws[i] (by rw[List.mem_take_iff_getElem];exact⟨i,by omega,rfl⟩)
  simpa[hit]using this
 rintro⟨h1,h2⟩ i hi;unfold mH;rw[dif_pos hi];simp only[Bool.and_eq_true,Bool.not_eq_true',List.any_eq_false]
 refine⟨h1 _ (List.getElem_mem hi),λx hx=>?_⟩
 obtain⟨j,hj,rfl⟩:=List.mem_take_iff_getElem.1 hx;have:=(List.pairwise_iff_getElem.1 h2) j i (by omega) hi (by omega)
 simpa[hit]using this
theorem PY(ss:List Se):(∀i,i<ss.length->mI ss i=true)↔RS ss:=by
 constructor
 ·intro h
  refine⟨λx hx=>?_,?_⟩
  ·obtain⟨i,hi,rfl⟩:=List.mem_iff_getElem.1 hx
   have:=h i hi;unfold mI at this;rw[dif_pos hi]at this;simp only[Bool.and_eq_true]at this
   exact this.1
  rw[List.pairwise_iff_getElem];intro i j hi hj jR;obtain⟨k,rfl⟩:∃k,j=i+1+k:=⟨j-(i+1),by omega⟩
  clear jR
  have step:∀m (hm:m+1<ss.length),(ss[m]'(by omega)).num<ss[m+1].num:=λm hm=>by
   have:=h (m+1) hm;unfold mI at this;rw[dif_pos hm,dif_pos (by omega)]at this
   simp only[Bool.and_eq_true,decide_eq_true_eq,Nat.add_sub_cancel]at this
   exact this.2
  induction k with
  |zero=>exact step i hj
  |succ k ih=>exact Int.lt_trans (ih (by omega) step) (step (i+1+k) (by omega))
 rintro⟨h1,h2⟩ i hi;unfold mI;rw[dif_pos hi];simp only[Bool.and_eq_true]
 refine⟨h1 _ (List.getElem_mem hi),?_⟩;by_cases h0:0<i
 ·rw[dif_pos h0]
  exact decide_eq_true ((List.pairwise_iff_getElem.1 h2) (i-1) i (by omega) hi (by omega))
 rw[dif_neg h0]
theorem gK(d:Wd):eF d=true↔d.ws.length<=64/\RW d.ws/\RS d.ss:=by
 unfold eF;rw[decide_eq_true_iff,PX,PY]
def cx:List Se->Int->Option Se
 |[],_=>none
 |s::r,n=>if s.num=n then some s else cx r n
def sf(ss:List Se)(n:Int):Se:=(cx ss n).getD ⟨n,0,[]⟩
def cZ:List Se->Se->List Se
 |[],s=>[s]
 |x::r,s=>if x.num<s.num then x::cZ r s else if x.num=s.num then s::r else s::x::r
theorem iP{ss:List Se}{n:Int}{s:Se}(h:cx ss n=some s):s∈ss/\s.num=n:=by
 induction ss with
 |nil=>cases h
 |cons x r ih=>
  unfold cx at h;split at h
  ·injection h with h;subst h;rename_i e;exact⟨List.mem_cons_self ..,e⟩
  exact⟨List.mem_cons_of_mem _ (ih h).1,(ih h).2⟩
theorem Ci(ss:List Se)(n:Int):(sf ss n).num=n:=by
 unfold sf;cases h:cx ss n with
 |none=>rfl
 |some s=>exact(iP h).2
theorem xZ{ss:List Se}{s x:Se}(h:x∈cZ ss s):x=s\/x∈ss:=by
 induction ss with
 |nil=>exact .inl (by simpa[cZ]using h)
 |cons y r ih=>
  unfold cZ at h;split at h
  ·rcases List.mem_cons.1 h with rfl|h
   ·exact .inr (List.mem_cons_self ..)
   exact(ih h).imp id (List.mem_cons_of_mem _)
  split at h
  ·rcases List.mem_cons.1 h with rfl|h
   ·exact .inl rfl
   exact .inr (List.mem_cons_of_mem _ h)
  rcases List.mem_cons.1 h with rfl|h
  ·exact .inl rfl
  exact .inr h
theorem Iu{ss:List Se}(h:ss.Pairwise (λa b=>a.num<b.num))(s:Se):(cZ ss s).Pairwise (λa b=>a.num<b.num):=by
 induction ss with
 |nil=>simp[cZ]
 |cons y r ih=>
  have h':=h;rw[List.pairwise_cons]at h;unfold cZ;split
  ·rename_i hy
   rw[List.pairwise_cons];refine⟨λx hx=>?_,ih h.2⟩
   rcases xZ hx with rfl|hx
   ·exact hy
   exact h.1 x hx
  split
  ·rename_i e
   rw[List.pairwise_cons];exact⟨λx hx=>by have:=h.1 x hx;omega,h.2⟩
  rw[List.pairwise_cons];refine⟨λx hx=>?_,h'⟩
  rcases List.mem_cons.1 hx with rfl|hx
  ·omega
  have:=h.1 x hx;omega
theorem LG{ss:List Se}(h:RS ss){s:Se}(hs:xh s=true):RS (cZ ss s):=
 ⟨λx hx=>(xZ hx).elim (λe=>e▸hs) (h.1 x),Iu h.2 s⟩
theorem Iv(ss:List Se)(s:Se):(cZ ss s).length<=ss.length+1:=by
 induction ss with
 |nil=>simp[cZ]
 |cons y r ih=>unfold cZ;split<;>(try split)<;>simp<;>omega
theorem Gu{ss:List Se}(h:ss.Pairwise (λa b=>a.num<b.num))(s:Se)(n:Int):cx (cZ ss s) n=if n=s.num then some s else cx ss n:=by
 induction ss with
 |nil=>
  simp only[cZ,cx]
  by_cases e:n=s.num
  ·rw[if_pos e,if_pos e.symm]
  rw[if_neg e,if_neg (λh=>e h.symm)]
 |cons y r ih=>
  have hr:=(List.pairwise_cons.1 h);unfold cZ;split
  ·rename_i hy
   simp only[cx]
   rw[ih hr.2];by_cases e:n=s.num
   ·rw[if_pos e,if_pos e,if_neg (by omega)]
   rw[if_neg e,if_neg e]
  split
  ·rename_i e2
   simp only[cx]
   by_cases e:n=s.num
   ·rw[if_pos e,if_pos e.symm]
   rw[if_neg e,if_neg (λh=>e h.symm),if_neg (by omega)]
  simp only[cx]
  by_cases e:n=s.num
  ·rw[if_pos e,if_pos e.symm]
  rw[if_neg e,if_neg (λh=>e h.symm)]
theorem LH{n:Int}(h:rX n=true):xh ⟨n,0,[]⟩=true:=by
 unfold xh;simp only[h,Bool.true_and,Bool.and_eq_true,decide_eq_true_eq]
 refine⟨by unfold tj;simp,λi hi=>by simp at hi⟩
theorem tE{ss:List Se}(h:RS ss){n:Int}(hn:rX n=true):xh (sf ss n)=true:=by
 unfold sf;cases hg:cx ss n with
 |none=>exact LH hn
 |some s=>exact h.1 s (iP hg).1
def Du(s:Se)(kind:Int)(p:Bs)(wt:Int):Se:=if s.count=tj then s else ⟨s.num,s.count+1,s.cW++[⟨s.count+1,kind,p,wt⟩]⟩
def mh(s:Se)(x:Wt)(kind:Int)(p:Bs):Se×Bool:=
 if s.cW.length=8 then (s,false) else if s.cW.length=7 then (Du s 4 x.p x.n,false) else (Du s kind p x.n,x.d)
theorem LI(s:Se)(kind:Int)(p:Bs)(wt:Int):(Du s kind p wt).num=s.num:=by unfold Du;split<;>rfl
theorem Ch(s:Se)(x:Wt)(kind:Int)(p:Bs):(mh s x kind p).1.num=s.num:=by
 unfold mh;split
 ·rfl
 split<;>exact LI _ _ _ _
theorem kF(s:Se):xh s=true↔rX s.num=true/\(0<=s.count/\s.count<=tj/\s.cW.length<=8/\(s.cW.length:Int)<=s.count)/\∀i (h:i<s.cW.length),Gs (s.count-s.cW.length+1+i) s.cW[i]=true:=by
 unfold xh;rw[Bool.and_eq_true,Bool.and_eq_true,decide_eq_true_eq,decide_eq_true_eq,and_assoc]
theorem tQ{s:Se}(h:xh s=true)(hl:s.cW.length<8){kind:Int}{p:Bs}{wt:Int}(hk:1<=kind/\kind<=4)(hp:(split p).isSome=true)(hw:rX wt=true):xh (Du s kind p wt)=true:=by
 have h0:=h;rw[kF]at h;obtain⟨h1,⟨h2,h3,h4,h5⟩,h6⟩:=h;unfold Du;split
 ·exact h0
 rename_i hc
 rw[kF];refine⟨h1,⟨by simp only;omega,by simp only;omega,by simp only[List.length_append,List.length_cons,List.length_nil];omega,by simp only[List.length_append,List.length_cons,List.length_nil];omega⟩,λi hi=>?_⟩
 simp only[List.length_append,List.length_cons,List.length_nil]at hi|-
 by_cases kX:i<s.cW.length
 ·rw[List.getElem_append_left kX]
  have:=h6 i kX;rw[show s.count+1-((s.cW.length+(0+1):Nat):Int)+1+(i:Int)=s.count-s.cW.length+1+i from by omega]
  exact this
 have hie:i=s.cW.length:=by omega
 subst hie;rw[List.getElem_append_right (Nat.le_refl _)];simp only[Nat.sub_self,List.getElem_cons_zero]
 unfold Gs;simp only[Bool.and_eq_true,decide_eq_true_eq]
 exact⟨⟨⟨by omega,hk⟩,hp⟩,hw⟩
theorem pJ(x:Wt):Dj x=true↔rX x.s=true/\rX x.n=true/\(split x.p).isSome=true:=by
 unfold Dj;rw[Bool.and_eq_true,Bool.and_eq_true,and_assoc]
theorem DY{s:Se}(h:xh s=true){x:Wt}(hx:Dj x=true){kind:Int}(hk:1<=kind/\kind<=3){p:Bs}(hp:(split p).isSome=true):xh (mh s x kind p).1=true:=by
 have hl:=((kF s).1 h).2.1.2.2.1;obtain⟨_,hn,zw⟩:=(pJ x).1 hx;unfold mh;split
 ·exact h
 split
 ·exact tQ h (by omega) ⟨by omega,by omega⟩ zw hn
 exact tQ h (by omega) ⟨by omega,by omega⟩ hp hn
def xy(p:Bs)(x:Wt):Bool:=decide (x.p=p)||(x.d && lR p x.p)
def EN(kind:Int)(p:Bs)(a:List Wt×List Se)(x:Wt):List Wt×List Se:=
 if xy p x then ((if (mh (sf a.2 x.s) x kind p).2 then a.1++[x] else a.1),cZ a.2 (mh (sf a.2 x.s) x kind p).1) else (a.1++[x],a.2)
def cu(kind:Int)(p:Bs)(ws:List Wt)(ss:List Se):List Wt×List Se:=ws.foldl (EN kind p) ([],ss)
theorem gq(kind:Int)(p:Bs)(ws:List Wt)(ss:List Se)(i:Nat)(h:i<ws.length):cu kind p (ws.take (i+1)) ss=EN kind p (cu kind p (ws.take i) ss) ws[i]:=by
 unfold cu;rw[List.take_succ_eq_append_getElem h,List.foldl_append];rfl
theorem PZ{kind:Int}(hk:1<=kind/\kind<=3){p:Bs}(hp:(split p).isSome=true){a:List Wt×List Se}(h:RS a.2){x:Wt}(hx:Dj x=true):RS (EN kind p a x).2:=by
 unfold EN;split
 ·exact LG h (DY (tE h ((pJ x).1 hx).1) hx hk hp)
 exact h
theorem uN{kind:Int}(hk:1<=kind/\kind<=3){p:Bs}(hp:(split p).isSome=true){ws:List Wt}(hw:∀x∈ws,Dj x=true){ss:List Se}(h:RS ss)(i:Nat)(hi:i<=ws.length):RS (cu kind p (ws.take i) ss).2:=by
 induction i with
 |zero=>simpa[cu]using h
 |succ i ih=>
  rw[gq _ _ _ _ i (by omega)]
  exact PZ hk hp (ih (by omega)) (hw _ (List.getElem_mem _))
theorem qx(kind:Int)(p:Bs)(ws:List Wt)(ss:List Se)(i:Nat)(hi:i<=ws.length):List.Sublist (cu kind p (ws.take i) ss).1 (ws.take i):=by
 induction i with
 |zero=>simp[cu]
 |succ i ih=>
  rw[gq _ _ _ _ i (by omega),List.take_succ_eq_append_getElem (by omega)]
  unfold EN;have h:=ih (by omega)
  split
  ·dsimp only
   split
   ·exact h.append (List.Sublist.refl _)
   exact h.trans (List.sublist_append_left _ _)
  exact h.append (List.Sublist.refl _)
theorem Hb(kind:Int)(p:Bs)(ws:List Wt)(ss:List Se)(i:Nat)(hi:i<=ws.length):(cu kind p (ws.take i) ss).2.length<=ss.length+i:=by
 induction i with
 |zero=>simp[cu]
 |succ i ih=>
  rw[gq _ _ _ _ i (by omega)]
  have h:=ih (by omega)
  unfold EN;split
  ·have:=Iv (cu kind p (ws.take i) ss).2 (mh (sf (cu kind p (ws.take i) ss).2 ws[i].s) ws[i] kind p).1
   dsimp only;omega
  dsimp only;omega
theorem RW.sub{a b:List Wt}(h:RW b)(s:List.Sublist a b):RW a:=⟨λx hx=>h.1 x (s.subset hx),h.2.sublist s⟩
def Rz(d:Wd)(x:Wt):Wd×Int:=
 if eF d=true/\Dj x=true then
  if d.ws.any (hit x.s x.n) then (d,61) else if d.ws.length=64 then (d,2) else (⟨d.ws++[x],cZ d.ss (sf d.ss x.s)⟩,0)
 else (⟨[],[]⟩,1)
def FH(d:Wd)(s n:Int):Wd×Int:=
 if eF d=true then if d.ws.any (hit s n) then (⟨d.ws.filter (λx=>!hit s n x),d.ss⟩,0) else (d,62) else (⟨[],[]⟩,1)
def gW(d:Wd)(kind:Int)(p:Bs):Wd×Int:=
 if eF d=true/\(1<=kind/\kind<=3)/\(split p).isSome=true then (⟨(cu kind p d.ws d.ss).1,(cu kind p d.ws d.ss).2⟩,0) else (⟨[],[]⟩,1)
def UL(LJ:Int)(l:List Ev):List Ev:=l.filter (λe=>decide (LJ<e.num))
def wL(d:Wd)(n LJ:Int):Wd×List Ev×Int:=
 if eF d=true then
  match cx d.ss n with
  |none=>(d,[],62)
  |some s=>(⟨d.ws,cZ d.ss ⟨s.num,s.count,UL LJ s.cW⟩⟩,UL LJ s.cW,0)
 else (⟨[],[]⟩,[],1)
theorem tq:eF ⟨[],[]⟩=true:=by decide
theorem Aa(d:Wd)(kind:Int)(p:Bs)(h:eF d=true):eF (gW d kind p).1=true:=by
 obtain⟨h1,h2,h3⟩:=(gK d).1 h;unfold gW;split
 ·rename_i hx
  have hs:=qx kind p d.ws d.ss d.ws.length (Nat.le_refl _);have hr:=uN hx.2.1 hx.2.2 h2.1 h3 d.ws.length (Nat.le_refl _);rw[List.take_length]at hs hr;rw[gK];exact⟨Nat.le_trans hs.length_le h1,h2.sub hs,hr⟩
 exact tq
end
section
namespace Pm
open Go.Proofs.Tryz
structure Hl where
 d:Bs
 t:Int
 a:Int
deriving DecidableEq
def eZ(n:Int):Bool:=decide (0<=n/\n<=tj)
def nF(p:Bs):Bool:=(split p).isSome
def FU(x:Hl):Bool:=nF x.d && eZ x.t && eZ x.a
abbrev Up(l:List Bs):Prop:=l.Pairwise (λa b=>lt a b=true)
abbrev kB(l:List Hl):Prop:=l.Pairwise (λa b=>lt a.d b.d=true)
abbrev Rb(l:List Int):Prop:=l.Pairwise (λa b=>a<b)
structure zJ(l:List Hl):Prop where
 ok:∀x∈l,FU x=true
 up:kB l
 one:∀x∈l,∀y∈l,x.t=y.t->x.a=y.a
def lJ(l:List Hl):Bool:=decide ((∀x∈l,FU x=true)/\kB l/\∀x∈l,∀y∈l,x.t=y.t->x.a=y.a)
theorem lK(l:List Hl):lJ l=true↔zJ l:=by
 unfold lJ;rw[decide_eq_true_eq];exact⟨λh=>⟨h.1,h.2.1,h.2.2⟩,λh=>⟨h.ok,h.up,h.one⟩⟩
theorem nQ{α:Type}{r:α->α->Prop}(Ws:∀a,¬r a a)(tr:∀a b c,r a b->r b c->r a c):∀{l m:List α},l.Pairwise r->m.Pairwise r->(∀x,x∈l↔x∈m)->l=m
 |[],[],_,_,_=>rfl
 |[],b::m,_,_,h=>by have:=(h b).2 (by simp);cases this
 |a::l,[],_,_,h=>by have:=(h a).1 (by simp);cases this
 |a::l,b::m,hl,hm,h=>by
  rw[List.pairwise_cons]at hl hm
  have e:a=b:=by
   rcases List.mem_cons.1 ((h a).1 (by simp)) with e|ha
   ·exact e
   rcases List.mem_cons.1 ((h b).2 (by simp)) with e|hb
   ·exact e.symm
   exact absurd (tr _ _ _ (hl.1 b hb) (hm.1 a ha)) (Ws a)
  subst e;refine congrArg (a::·) (nQ Ws tr hl.2 hm.2 λx=>⟨λhx=>?_,λhx=>?_⟩)
  ·rcases List.mem_cons.1 ((h x).1 (by simp[hx])) with e|h1
   ·subst e;exact absurd (hl.1 x hx) (Ws x)
   exact h1
  rcases List.mem_cons.1 ((h x).2 (by simp[hx])) with e|h1
  ·subst e;exact absurd (hm.1 x hx) (Ws x)
  exact h1
theorem AY{l m:List Bs}(hl:Up l)(hm:Up m)(h:∀x,x∈l↔x∈m):l=m:=
 nQ (r:=λa b=>lt a b=true) (λa h=>by rw[lt_irrefl]at h;cases h) (λ_ _ _ h k=>lt_trans h k) hl hm h
theorem AZ{l m:List Hl}(hl:kB l)(hm:kB m)(h:∀x,x∈l↔x∈m):l=m:=
 nQ (r:=λa b:Hl=>lt a.d b.d=true) (λa h=>by rw[lt_irrefl]at h;cases h) (λ_ _ _ h k=>lt_trans h k) hl hm h
def A2(l:List Bs)(s:Bs):List Bs:=l.filter (λx=>lt x s)++s::l.filter (λx=>lt s x)
def Iw(l:List Hl)(h:Hl):List Hl:=l.filter (λx=>lt x.d h.d)++h::l.filter (λx=>lt h.d x.d)
def A3(l:List Int)(n:Int):List Int:=l.filter (λx=>decide (x<n))++n::l.filter (λx=>decide (n<x))
theorem Ix{l:List Bs}{s x:Bs}:x∈A2 l s↔x∈l\/x=s:=by
 unfold A2;simp only[List.mem_append,List.mem_cons,List.mem_filter]
 constructor
 ·rintro(⟨h,_⟩|h|⟨h,_⟩)
  ·exact .inl h
  ·exact .inr h
  exact .inl h
 rintro(h|h)
 ·cases c:lt x s with
  |true=>exact .inl ⟨h,rfl⟩
  |false=>
   cases c2:lt s x with
   |true=>exact .inr (.inr ⟨h,rfl⟩)
   |false=>exact .inr (.inl (qT _ _ c c2))
 exact .inr (.inl h)
theorem LK{l:List Bs}(s:Bs)(h:Up l):Up (A2 l s):=by
 unfold A2 Up;rw[List.pairwise_append,List.pairwise_cons];refine⟨h.filter _,⟨λx hx=>by simpa using (List.mem_filter.1 hx).2,h.filter _⟩,λx hx y hy=>?_⟩
 have h1:lt x s=true:=by simpa using (List.mem_filter.1 hx).2
 rcases List.mem_cons.1 hy with rfl|hy
 ·exact h1
 exact lt_trans h1 (by simpa using (List.mem_filter.1 hy).2)
theorem Iy{l:List Int}{s x:Int}:x∈A3 l s↔x∈l\/x=s:=by
 unfold A3;simp only[List.mem_append,List.mem_cons,List.mem_filter,decide_eq_true_eq]
 constructor
 ·rintro(⟨h,_⟩|h|⟨h,_⟩)
  ·exact .inl h
  ·exact .inr h
  exact .inl h
 rintro(h|h)
 ·rcases Int.lt_trichotomy x s with c|c|c
  ·exact .inl ⟨h,c⟩
  ·exact .inr (.inl c)
  exact .inr (.inr ⟨h,c⟩)
 exact .inr (.inl h)
theorem LL{l:List Int}(s:Int)(h:Rb l):Rb (A3 l s):=by
 unfold A3 Rb;rw[List.pairwise_append,List.pairwise_cons];refine⟨h.filter _,⟨λx hx=>by simpa using (List.mem_filter.1 hx).2,h.filter _⟩,λx hx y hy=>?_⟩
 have h1:x<s:=by simpa using (List.mem_filter.1 hx).2
 rcases List.mem_cons.1 hy with rfl|hy
 ·exact h1
 have:s<y:=by simpa using (List.mem_filter.1 hy).2
 omega
theorem LM{l:List Hl}(s:Hl)(h:kB l):kB (Iw l s):=by
 unfold Iw kB;rw[List.pairwise_append,List.pairwise_cons];refine⟨h.filter _,⟨λx hx=>by simpa using (List.mem_filter.1 hx).2,h.filter _⟩,λx hx y hy=>?_⟩
 have h1:lt x.d s.d=true:=by simpa using (List.mem_filter.1 hx).2
 rcases List.mem_cons.1 hy with rfl|hy
 ·exact h1
 exact lt_trans h1 (by simpa using (List.mem_filter.1 hy).2)
theorem yb{l:List Hl}{s x:Hl}:x∈Iw l s↔(x∈l/\x.d≠s.d)\/x=s:=by
 unfold Iw;simp only[List.mem_append,List.mem_cons,List.mem_filter]
 constructor
 ·rintro(⟨h,k⟩|h|⟨h,k⟩)
  ·exact .inl ⟨h,gY k⟩
  ·exact .inr h
  exact .inl ⟨h,Ne.symm (gY k)⟩
 rintro(⟨h,k⟩|h)
 ·cases c:lt x.d s.d with
  |true=>exact .inl ⟨h,rfl⟩
  |false=>exact .inr (.inr ⟨h,lr c k⟩)
 exact .inr (.inl h)
def gG(l:List Bs):List Bs:=l.foldl A2 []
theorem LN{l:List Bs}:∀{a:List Bs},Up a->Up (l.foldl A2 a):=by
 induction l with
 |nil=>intro a h;exact h
 |cons x l ih=>intro a h;exact ih (LK x h)
theorem Iz{l:List Bs}{x:Bs}:∀{a:List Bs},x∈l.foldl A2 a↔x∈a\/x∈l:=by
 induction l with
 |nil=>intro a;simp
 |cons y l ih=>intro a;rw[List.foldl_cons,ih,Ix,List.mem_cons];exact or_assoc
theorem pE(l:List Bs):Up (gG l):=LN List.Pairwise.nil
theorem gI{l:List Bs}{x:Bs}:x∈gG l↔x∈l:=by unfold gG;rw[Iz];simp
theorem LO{l m:List Bs}(h:Up m)(hm:∀x,x∈m↔x∈l):m=gG l:=AY h (pE l) (λx=>by rw[hm,gI])
def qg(l:List Int):List Int:=l.foldl A3 []
theorem IA{l:List Int}:∀{a:List Int},Rb a->Rb (l.foldl A3 a):=by
 induction l with
 |nil=>intro a h;exact h
 |cons x l ih=>intro a h;exact ih (LL x h)
theorem DZ{l:List Int}{x:Int}:∀{a:List Int},x∈l.foldl A3 a↔x∈a\/x∈l:=by
 induction l with
 |nil=>intro a;simp
 |cons y l ih=>intro a;rw[List.foldl_cons,ih,Iy,List.mem_cons];exact or_assoc
theorem CH(l:List Int):Rb (qg l):=IA List.Pairwise.nil
theorem IB{l:List Int}{x:Int}:x∈qg l↔x∈l:=by unfold qg;rw[DZ];simp
def mu(l:List Hl)(p:Bs):Option Hl:=l.find? (λx=>decide (x.d=p))
def mw(l:List Hl)(t:Int):List Hl:=l.filter (λx=>decide (x.t≠t))
def zH(l:List Hl)(t a:Int)(ds:List Bs):Bool:=eZ t && eZ a && ds.all nF && l.all (λx=>decide (x.t=t->x.a=a))
def eY(l:List Hl)(t:Int)(ds:List Bs):List Hl:=l.filter (λx=>decide (x.d∈ds/\x.t≠t))
def Za(t a:Int)(x:Hl):Bool:=decide (a<x.a\/x.a=a/\t<x.t)
def J4(l:List Hl)(t a:Int)(ds:List Bs):List Int:=qg (((eY l t ds).filter (Za t a)).map Hl.t)
def jD(l:List Hl)(t a:Int)(ds:List Bs):List Hl:=ds.foldl (λl d=>Iw l ⟨d,t,a⟩) l
def eE(l:List Hl)(t a:Int)(ds:List Bs):List Hl×List Int×Bool:=
 if lJ l=true/\zH l t a ds=true then
  (if eY l t ds=[] then (jD l t a ds,[],true) else (l,J4 l t a ds,false))
 else ([],[],false)
theorem BR{ds:List Bs}{t a:Int}:∀{l:List Hl},kB l->kB (jD l t a ds):=by
 unfold jD;induction ds with
 |nil=>intro l h;exact h
 |cons d ds ih=>intro l h;exact ih (LM _ h)
theorem wS{ds:List Bs}{t a:Int}{x:Hl}:∀{l:List Hl},(∀y∈l,y.d∈ds->y=⟨y.d,t,a⟩)->(x∈jD l t a ds↔x∈l\/(x.d∈ds/\x=⟨x.d,t,a⟩)):=by
 unfold jD;induction ds with
 |nil=>intro l h;simp
 |cons d ds ih=>
  intro l h
  rw[List.foldl_cons,ih (λy hy hd=>by
   rcases yb.1 hy with⟨hy,_⟩|rfl
   ·exact h y hy (by simp[hd])
   rfl),yb]
  constructor
  ·rintro((⟨h1,_⟩|rfl)|⟨h1,h2⟩)
   ·exact .inl h1
   ·exact .inr ⟨by simp,rfl⟩
   exact .inr ⟨by simp[h1],h2⟩
  rintro(h1|⟨h1,h2⟩)
  ·by_cases e:x.d=d
   ·have:=h x h1 (by simp[e]);left;right;rw[this,e]
   exact .inl (.inl ⟨h1,e⟩)
  rcases List.mem_cons.1 h1 with e|e
  ·left;right;rw[h2,e]
  exact .inr ⟨e,h2⟩
theorem LP{l:List Hl}{t:Int}{ds:List Bs}(h:eY l t ds=[]):∀y∈l,y.d∈ds->y.t=t:=by
 intro y hy hd;unfold eY at h;rw[List.filter_eq_nil_iff]at h;have:=h y hy;simp only[decide_eq_true_eq,not_and,Decidable.not_not]at this
 exact this hd
theorem BT(l:List Hl)(t a:Int)(ds:List Bs):zH l t a ds=true↔eZ t=true/\eZ a=true/\(∀d∈ds,nF d=true)/\∀x∈l,x.t=t->x.a=a:=by
 unfold zH;simp only[Bool.and_eq_true,List.all_eq_true,decide_eq_true_eq,and_assoc]
theorem FZ{l:List Hl}{t a:Int}{ds:List Bs}(hm:zH l t a ds=true)(hw:eY l t ds=[]):∀y∈l,y.d∈ds->y=⟨y.d,t,a⟩:=by
 intro y hy hd;have e1:=LP hw y hy hd;have e2:=((BT _ _ _ _).1 hm).2.2.2 y hy e1;cases y
 simp only at e1 e2
 subst e1 e2;rfl
theorem BQ{l m:List Hl}{t a:Int}{ds:List Bs}(hr:kB l)(ho:∀y∈l,y.d∈ds->y=⟨y.d,t,a⟩)(hu:kB m)(hm:∀x,x∈m↔x∈l\/(x.d∈ds/\x=⟨x.d,t,a⟩)):m=jD l t a ds:=
 AZ hu (BR hr) (λx=>by rw[hm,wS ho])
end Pm
namespace Pm
open Go.Proofs.Tryz
def Wu(e:Int):Bool:=decide (0<=e/\e<=tj)
def Zb(a:Int):Bool:=decide (1<=a/\a<=3)
def nA(x:Hl):Bool:=nF x.d && Wu x.t && Zb x.a
structure kT(l:List Hl):Prop where
 len:l.length<=32
 ok:∀x∈l,nA x=true
 up:kB l
def dO(l:List Hl):Bool:=decide (l.length<=32/\(∀x∈l,nA x=true)/\kB l)
theorem dA(l:List Hl):dO l=true↔kT l:=by
 unfold dO;rw[decide_eq_true_eq];exact⟨λh=>⟨h.1,h.2.1,h.2.2⟩,λh=>⟨h.len,h.ok,h.up⟩⟩
theorem CI{l:List Hl}:kB l↔Up (l.map Hl.d):=by unfold kB Up;rw[List.pairwise_map]
theorem gL{y:Hl}{r:List Hl}:kB (y::r)↔(∀a∈r,lt y.d a.d=true)/\kB r:=List.pairwise_cons
theorem kB.at{l:List Hl}(h:kB l){i j:Nat}(hi:i<l.length)(hj:j<l.length)(jR:i<j):lt l[i].d l[j].d=true:=List.pairwise_iff_getElem.1 h i j hi hj jR
def nD:List Hl->Bs->Nat
 |[],_=>0
 |y::r,p=>if lt y.d p=true then nD r p+1 else 0
def eX:List Hl->Bs->Option Hl
 |[],_=>none
 |y::r,p=>if y.d=p then some y else eX r p
def eP:List Hl->Hl->List Hl
 |[],x=>[x]
 |y::r,x=>if lt y.d x.d=true then y::eP r x else if y.d=x.d then x::r else x::y::r
theorem FD(l:List Hl)(p:Bs):nD l p<=l.length:=by
 induction l with
 |nil=>exact Nat.le_refl _
 |cons s r ih=>unfold nD;split<;>simp<;>omega
theorem P0{l:List Hl}{n:Bs}{k:Nat}(hk:k<=l.length)(h1:∀i (h:i<l.length),i<k->lt l[i].d n=true)(h2:∀i (h:i<l.length),k<=i->lt l[i].d n=false):nD l n=k:=by
 induction l generalizing k with
 |nil=>
      have:k=0:=by simpa using hk
      subst this;rfl
 |cons s r ih=>
  unfold nD;cases k with
  |zero=>rw[if_neg (by have:=h2 0 (by simp) (Nat.le_refl _);simpa using this)]
  |succ k=>?_
  rw[if_pos (by have:=h1 0 (by simp) (Nat.succ_pos _);simpa using this)]
  rw[ih (k:=k) (by simpa using hk) (λi h hi=>h1 (i+1) (Nat.succ_lt_succ h) (by omega)) (λi h hi=>h2 (i+1) (Nat.succ_lt_succ h) (by omega))]
theorem nR{l:List Hl}{p:Bs}{x:Hl}(h:eX l p=some x):x∈l/\x.d=p:=by
 induction l with
 |nil=>cases h
 |cons y r ih=>
  unfold eX at h;by_cases e:y.d=p
  ·rw[if_pos e]at h;cases h;exact⟨by simp,e⟩
  rw[if_neg e]at h;exact⟨List.mem_cons_of_mem _ (ih h).1,(ih h).2⟩
theorem D0{l:List Hl}{p:Bs}(h:eX l p=none):∀x∈l,x.d≠p:=by
 induction l with
 |nil=>intro x hx;cases hx
 |cons y r ih=>
  unfold eX at h;by_cases e:y.d=p
  ·rw[if_pos e]at h;cases h
  rw[if_neg e]at h;intro x hx;rcases List.mem_cons.1 hx with rfl|hx
  ·exact e
  exact ih h x hx
theorem LQ{l:List Hl}{p:Bs}(h:∀x∈l,x.d≠p):eX l p=none:=by
 cases e:eX l p with
 |none=>rfl
 |some x=>exact absurd (nR e).2 (h x (nR e).1)
theorem A4{l:List Hl}(h:kB l)(p:Bs):eX l p=if h:nD l p<l.length then (if l[nD l p].d=p then some l[nD l p] else none) else none:=by
 induction l with
 |nil=>rfl
 |cons s r ih=>
  rw[gL]at h;by_cases h1:lt s.d p=true
  ·have e:nD (s::r) p=nD r p+1:=by simp only[nD,if_pos h1]
   simp only[e,eX]
   rw[if_neg (gY h1),ih h.2];by_cases h2:nD r p<r.length
   ·rw[dif_pos h2,dif_pos (by simpa using h2)]
    simp only[List.getElem_cons_succ]
   rw[dif_neg h2,dif_neg (by simpa using h2)]
  have e:nD (s::r) p=0:=by simp only[nD,if_neg h1]
  simp only[e,eX]
  rw[dif_pos (by simp)]
  simp only[List.getElem_cons_zero]
  by_cases h2:s.d=p
  ·rw[if_pos h2,if_pos h2]
  rw[if_neg h2,if_neg h2];refine LQ λx hx e=>?_
  have:=h.1 x hx;rw[e]at this;exact h1 this
theorem wH{l:List Hl}(hu:kB l){x:Hl}(h:(eX l x.d).isSome=true):nD l x.d<l.length/\eP l x=l.set (nD l x.d) x:=by
 induction l with
 |nil=>cases h
 |cons y r ih=>
  rw[gL]at hu;by_cases h1:lt y.d x.d=true
  ·have hn:y.d≠x.d:=gY h1
   simp only[eX,if_neg hn]at h
   simp only[eP,nD,if_pos h1]
   have:=ih hu.2 h;exact⟨by simp;exact this.1,by rw[this.2];rfl⟩
  simp only[eP,nD,if_neg h1]
  by_cases h2:y.d=x.d
  ·rw[if_pos h2];exact⟨by simp,rfl⟩
  simp only[eX,if_neg h2]at h
  obtain⟨z,hz⟩:=Option.isSome_iff_exists.1 h;have:=nR hz;have h3:=hu.1 z this.1;rw[this.2]at h3;exact absurd h3 h1
theorem wI{l:List Hl}{x:Hl}(h:eX l x.d=none):eP l x=l.take (nD l x.d)++x::l.drop (nD l x.d):=by
 induction l with
 |nil=>rfl
 |cons y r ih=>
  have h2:y.d≠x.d:=D0 h y (by simp)
  simp only[eX,if_neg h2]at h
  by_cases h1:lt y.d x.d=true
  ·simp only[eP,nD,if_pos h1]
   rw[ih h];simp
  simp only[eP,nD,if_neg h1,if_neg h2];simp
def Nz(l:List Hl)(d:Bs)(k:Nat):Bool:=match l[k]? with|some x=>lR d x.d|none=>false
theorem vx{l:List Hl}{d:Bs}{k:Nat}(h:k<l.length):Nz l d k=lR d l[k].d:=by unfold Nz;rw[List.getElem?_eq_getElem h]
def bk(l:List Hl)(d:Bs):Nat->Option Nat
 |0=>none
 |k+1=>if Nz l d k=true then some k else bk l d k
theorem LR{l:List Hl}{d:Bs}{n:Nat}(h:∀j,j<n->Nz l d j=false):bk l d n=none:=by
 induction n with
 |zero=>rfl
 |succ n ih=>
  unfold bk;rw[if_neg (by rw[h n (Nat.lt_succ_self n)];exact Bool.false_ne_true)]
  exact ih λj hj=>h j (by omega)
theorem UM{l:List Hl}{d:Bs}{n i:Nat}(hi:i<n)(h:Nz l d i=true)(h2:∀j,i<j->j<n->Nz l d j=false):bk l d n=some i:=by
 induction n with
 |zero=>omega
 |succ n ih=>
  unfold bk;rcases Nat.lt_or_eq_of_le (show i<=n by omega) with e|e
  ·rw[if_neg (by rw[h2 n e (Nat.lt_succ_self n)];exact Bool.false_ne_true)]
   exact ih e λj h1 h3=>h2 j h1 (by omega)
  subst e;rw[if_pos h]
theorem pR{l:List Hl}{d:Bs}{n i:Nat}(h:bk l d n=some i):i<n/\Nz l d i=true:=by
 induction n with
 |zero=>cases h
 |succ n ih=>
  unfold bk at h;by_cases e:Nz l d n=true
  ·rw[if_pos e]at h;cases h;exact⟨Nat.lt_succ_self _,e⟩
  rw[if_neg e]at h;exact⟨Nat.lt_succ_of_lt (ih h).1,(ih h).2⟩
def idx:Option Nat->Int
 |none=>-1
 |some k=>(k:Int)
def CX(l:List Hl)(d:Bs):Option Nat:=if dO l=true then bk l d l.length else none
theorem uy{l:List Hl}{d:Bs}{i:Nat}(h:CX l d=some i):i<l.length:=by
 unfold CX at h;split at h
 ·exact(pR h).1
 cases h
def pick(l:List Hl)(d:Bs):Option Hl:=(CX l d).bind (l[·]?)
theorem mq{l:List Hl}{d:Bs}{i:Nat}(h:CX l d=some i):pick l d=some (l[i]'(uy h)):=by
 unfold pick;rw[h];exact List.getElem?_eq_getElem _
theorem kC{l:List Hl}{d:Bs}(h:CX l d=none):pick l d=none:=by unfold pick;rw[h];rfl
theorem BN{l:List Hl}{d:Bs}{x:Hl}(h:pick l d=some x):kT l/\x∈l/\lR d x.d=true:=by
 cases e:CX l d with
 |none=>rw[kC e]at h;cases h
 |some i=>?_
 rw[mq e]at h;injection h with h
 have hr:kT l:=by
  unfold CX at e;by_cases hr:dO l=true
  ·exact(dA l).1 hr
  rw[if_neg hr]at e;cases e
 refine⟨hr,by rw[<-h];exact List.getElem_mem _,?_⟩
 unfold CX at e;rw[if_pos ((dA l).2 hr)]at e;have:=(pR e).2;rw[vx (pR e).1,h]at this;exact this
def N1(l:List Hl)(d:Bs):Int:=match pick l d with|none=>3|some x=>x.a
def mr(l:List Hl)(x:Hl):Option (List Hl):=if (eX l x.d).isSome=true\/l.length<32 then some (eP l x) else none
def ED(l:List Hl)(p:Bs):Option (List Hl):=match pick l p with
 |none=>none
 |some y=>if y.a=1 then mr l ⟨p,y.t,2⟩ else none
def Zc(l:List Hl)(p:Bs)(e:Int):Bool:=match eX l p with|some y=>decide (y.t<e)|none=>true
def inst(l:List Hl)(p:Bs)(e:Int):Option (List Hl):=if dO l=true/\nF p=true/\Wu e=true/\Zc l p e=true then mr l ⟨p,e,1⟩ else none
def drp(l:List Hl)(p:Bs)(e:Int):Option (List Hl):=if dO l=true/\(⟨p,e,2⟩:Hl)∈l then mr l ⟨p,e,3⟩ else none
end Pm
namespace Pm
open Go.Proofs.Tryz
def sp(acc:List Bs)(cur:Bs):Bs->Option (List Bs)
 |[]=>if cM cur=true/\acc.length<6 then some (acc++[cur]) else none
 |c::r=>if c≠47 then sp acc (cur++[c]) r else if cM cur=true/\acc.length<6 then sp (acc++[cur]) [] r else none
end Pm
namespace Pm
open Go.Proofs.Tryz
theorem BS{α:Type}[DecidableEq α]:∀{l m:List α},l.Nodup->(∀x∈l,x∈m)->l.length<=m.length
 |[],m,_,_=>Nat.zero_le _
 |a::l,m,hn,h=>by
  obtain⟨h1,h2⟩:=List.nodup_cons.1 hn;have ha:a∈m:=h a (by simp)
  have:=BS (l:=l) (m:=m.erase a) h2 (λx hx=>by
   have bA:x≠a:=λe=>h1 (e▸hx)
   exact(List.mem_erase_of_ne bA).2 (h x (by simp[hx])))
  rw[List.length_erase_of_mem ha]at this;have:0<m.length:=List.length_pos_of_mem ha;rw[List.length_cons];omega
theorem Od{l:List Hl}(h:kB l):Up (l.map Hl.d):=List.pairwise_map.2 h
def gone(l:List Hl)(t:Int):List Bs:=(l.filter (λx=>decide (x.t=t))).map Hl.d
end Pm
end
end Go.Proofs.YtgafcelloiagmaaGreatDoor
