/- A text of this proof. -/
import Derived.Test.YtgafcelloiagmaaGreatDoorZCBB
import Derived.Test.YtgafcelloiagmaaGreatDoorZCBE
set_option maxHeartbeats 16000000
set_option linter.unusedSimpArgs false
set_option linter.unusedVariables false
set_option maxRecDepth 20000
namespace Go.Proofs.YtgafcelloiagmaaGreatDoor
open Go.Proofs.Tryz
open Pm
theorem Dq{ss:List Se}(h:ss.Pairwise (λa b=>a.num<b.num)){s:Se}(hs:(cx ss s.num).isSome=true):(cZ ss s).length=ss.length:=by
 induction ss with
 |nil=>simp[cx]at hs
 |cons y r ih=>
  rw[List.pairwise_cons]at h;unfold cZ;split
  ·next h1=>
   have:cx (y::r) s.num=cx r s.num:=by show(if y.num=s.num then some y else cx r s.num)=_;rw[if_neg (by omega)]
   rw[this]at hs;rw[List.length_cons,ih h.2 hs,List.length_cons]
  split
  ·rfl
  next h1 h2=>
  exfalso
  have h3:cx (y::r) s.num=cx r s.num:=by show(if y.num=s.num then some y else cx r s.num)=_;rw[if_neg h2]
  rw[h3]at hs;obtain⟨t,ht⟩:=Option.isSome_iff_exists.1 hs;have h4:=iP ht;have:=h.1 t h4.1;omega
structure xi(B:Nat)(d:Wd):Prop where
 right:eF d=true
 Kj:∀x∈d.ws,(cx d.ss x.s).isSome=true
 len:d.ss.length<=B
theorem Gt(kind:Int)(p:Bs){a:List Wt×List Se}(h:a.2.Pairwise (λa b=>a.num<b.num)){x:Wt}(hs:(cx a.2 x.s).isSome=true):
  (EN kind p a x).2.length=a.2.length/\∀n,(cx a.2 n).isSome=true->(cx (EN kind p a x).2 n).isSome=true:=by
 unfold EN;split
 ·have hn:(mh (sf a.2 x.s) x kind p).1.num=x.s:=by rw[Ch,Ci]
  refine⟨Dq h (by rw[hn];exact hs),λn si=>?_⟩
  simp only
  rw[Gu h];split
  ·rfl
  exact si
 exact⟨rfl,λn hn=>hn⟩
theorem zZ{kind:Int}(hk:1<=kind/\kind<=3){p:Bs}(hp:(split p).isSome=true){ws:List Wt}(hw:∀x∈ws,Dj x=true){ss:List Se}(h:RS ss)(hs:∀x∈ws,(cx ss x.s).isSome=true)(i:Nat)(hi:i<=ws.length):
  (cu kind p (ws.take i) ss).2.length=ss.length/\∀n,(cx ss n).isSome=true->(cx (cu kind p (ws.take i) ss).2 n).isSome=true:=by
 induction i with
 |zero=>exact⟨rfl,λn h=>h⟩
 |succ i ih=>
  obtain⟨h1,h2⟩:=ih (by omega)
  rw[gq kind p ws ss i hi];have h3:=uN hk hp hw h i (by omega)
  obtain⟨h4,h5⟩:=Gt kind p h3.2 (x:=ws[i]) (h2 _ (hs _ (List.getElem_mem hi)));exact⟨h4.trans h1,λn hn=>h5 n (h2 n hn)⟩
theorem xi.mh{B:Nat}{d:Wd}(h:xi B d)(k:Int)(p:Bs):xi B (iJ d k p):=by
 unfold iJ;split
 ·next h0=>
  refine⟨Aa d k p h.right,?_,?_⟩
  all_goals
   unfold gW at h0|-;split at h0
   ·next hc=>
    rw[if_pos hc];obtain⟨_,hRW,hRS⟩:=(gK d).1 h.right;have Fi:=zZ hc.2.1 hc.2.2 hRW.1 hRS h.Kj d.ws.length (Nat.le_refl _);rw[List.take_length]at Fi;first
    |(intro x hx
      have Ko:=qx k p d.ws d.ss d.ws.length (Nat.le_refl _);rw[List.take_length]at Ko;exact Fi.2 _ (h.Kj x (Ko.subset hx)))
    |exact Nat.le_trans (Nat.le_of_eq Fi.1) h.len
   simp at h0
 exact h
theorem xi.Z7{B:Nat}{d:Wd}(h:xi B d)(hB:B<=30000):Sa d:=by
 obtain⟨h1,h2,h3⟩:=(gK d).1 h.right
 have hp:∀p:Bs,(split p).isSome=true->p.length<=1000000:=λp hp=>by
  obtain⟨ps,dH⟩:=Option.isSome_iff_exists.1 hp;obtain⟨hP,e⟩:=(bL _ _).1 dH;have:=dK hP;rw[e]at this;omega
 refine⟨by omega,Nat.le_trans h.len hB,λx hx=>hp _ ((pJ x).1 (h2.1 x hx)).2.2,λs hs=>?_⟩
 have hr:=(kF s).1 (h3.1 s hs);refine⟨by omega,λe he=>?_⟩
 obtain⟨i,hi,rfl⟩:=List.getElem_of_mem he;have:=hr.2.2 i hi;unfold Gs at this;simp only[Bool.and_eq_true]at this
 exact hp _ this.1.2
theorem xi.nil(B:Nat):xi B ⟨[],[]⟩:=⟨tq,λx hx=>(by cases hx),Nat.zero_le _⟩
theorem Gv(h:bQ)(k:Int)(p:Bs):(nE h (gW h.wd k p).1 (gW h.wd k p).2).1={ h with wd:=iJ h.wd k p }:=by
 unfold nE iJ;split<;>rfl
open Go.RowKit Pm
theorem Pm.dh.up{s:St}(h:dh s){k:Nat}(h0:0<k)(hk:k<s.nodes.length)(h1:k-1<s.nodes.length):lt (s.nodes[k-1]).path (s.nodes[k]).path=true:=h.kR (k-1) k h1 hk (by omega)
theorem Gw(l:List Tu)(p:Bs)(n:Int):(lL l p n).length<=l.length+1:=by
 have h1:(l.eraseIdx (cj l p)).length<=l.length:=by rw[List.length_eraseIdx];split<;>omega
 have h2:∀(m:List Tu) (k:Nat) (x:Tu),(fj m k x).length=m.length+1:=λm k x=>by unfold fj;rw[List.length_append,List.length_cons,List.length_take,List.length_drop];omega
 unfold lL;simp only
 split<;>split<;>(try rw[h2])<;>omega
end Go.Proofs.YtgafcelloiagmaaGreatDoor
