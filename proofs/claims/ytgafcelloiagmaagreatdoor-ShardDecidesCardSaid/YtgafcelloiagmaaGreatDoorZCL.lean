/- A text of this proof. -/
import Derived.Test.YtgafcelloiagmaaGreatDoorZCH
set_option maxHeartbeats 16000000
set_option linter.unusedSimpArgs false
set_option linter.unusedVariables false
set_option maxRecDepth 20000
namespace Go.Proofs.YtgafcelloiagmaaGreatDoor
open Go.Proofs.Tryz
section
namespace Pm
open Go.Proofs.Tryz
def M:Nat:=281474976710656
def dg(n:Nat):UInt8:=UInt8.ofNat n
def hi(n:Nat):Bs:=if _h:n=0 then [] else hi (n / 128)++[dg (128+n % 128)]
 termination_by n
 decreasing_by omega
def enc(n:Nat):Bs:=hi (n / 128)++[dg (n % 128)]
def val(l:Bs):Nat:=l.foldl (λa c=>a*128+c.toNat % 128) 0
def lead:Nat->Bs->Nat
 |0,_=>0
 |_+1,[]=>0
 |k+1,c::r=>if 128<=c.toNat then lead k r+1 else 0
def nx(l:Bs)(most:Int):Int×Nat×Bs:=
 if l.head?=some 128\/lead 7 l=7 then (3,0,[])
 else if lead 7 l=l.length then (21,0,[])
 else if M<val (l.take (lead 7 l+1))\/most<(val (l.take (lead 7 l+1)):Int) then (3,0,[])
 else (0,val (l.take (lead 7 l+1)),l.drop (lead 7 l+1))
end Pm
namespace Pm
open Go.Proofs.Tryz
structure Pe where
 op:Int
 p:Pt
deriving DecidableEq
structure Cd where
 kind:Int
 id:Int
 bu:Int
 gX:Int
 yes:Bool
 ps:List Pe
 pre:Bs
 ep:Int
 to:Int
 st:St
 gone:List Bs
 ws:Int
 wn:Int
 wp:Bs
 deep:Bool
deriving DecidableEq
def fl(b:Bool):Int:=if b then 1 else 0
def num(n:Int):Prop:=0<=n/\n<=281474976710656
instance (n:Int):Decidable (num n):=inferInstanceAs (Decidable (_/\_))
section
variable {α : Type}
end
def UX(x:Pe):Prop:=num x.op/\x.op<=7/\num x.p.kind/\x.p.kind<=10/\x.p.dir.length<=M/\x.p.path.length<=M/\x.p.data.length<=M/\num (x.p.aX+1)/\num x.p.own/\x.p.own<=1099511627776
def kt(l:List Int):Bool:=l.all (λn=>decide (num n))
def nO(p:Bs):Bool:=decide (p=[])||(split p).isSome
def lx(l:List Pe):Prop:=l.length<=16/\∀k (h:k<l.length),0<=l[k].op/\l[k].op<8/\cq l[k].p=true/\l[k].p.aX≠281474976710656/\(∀(_:0<k) (h1:k-1<l.length),l[k-1].op<=l[k].op)
def Ap(s:St):Prop:=s.nodes.length<=512/\s.turns.length<=512/\dh s
def qF(pre:Bs)(l:List Bs):Prop:=l.length<=32/\∀k (h:k<l.length),l[k]≠pre/\lR l[k] pre=true/\(∀(_:0<k) (h1:k-1<l.length),lt l[k-1] l[k]=true)
structure pN(c:Cd):Prop where
 kind:1<=c.kind/\c.kind<=13
 to:0<=c.to/\c.to<4
 Ux:kt [c.id,c.bu,c.gX,c.ep,c.ws,c.wn]=true
 pre:nO c.pre=true
 wp:nO c.wp=true
 ps:lx c.ps
 st:Ap c.st
 gone:qF c.pre c.gone
open Classical in
noncomputable def im(c:Cd):Bool:=decide (pN c)
theorem oC{c:Cd}(h:pN c):im c=true:=by unfold im;simp[h]
theorem vE{c:Cd}(h:¬pN c):im c=false:=by unfold im;simp[h]
end Pm
end
section
namespace Pm
open Go.Proofs.Tryz
theorem rC{p:Bs}(h:(split p).isSome=true):p.length<=100:=by
 obtain⟨ps,dH⟩:=Option.isSome_iff_exists.1 h;obtain⟨hP,e⟩:=(bL _ _).1 dH;have:=dK hP;rw[e]at this;exact this
theorem UY(p:Bs):(iC p).length<=100:=rC (qO p)
theorem mQ{p:Bs}(h:nO p=true):p.length<=100:=by
 unfold nO at h;rw[Bool.or_eq_true]at h;rcases h with h|h
 ·rw[of_decide_eq_true h];simp
 exact rC h
theorem tK{l:List Pe}(h:lx l):∀x∈l,UX x/\x.p.dir.length<=100/\x.p.path.length<=100/\x.p.data.length<=256:=by
 intro x hx;obtain⟨k,hk,rfl⟩:=List.getElem_of_mem hx;obtain⟨h1,h2,h3,h4,_⟩:=h.2 k hk;obtain⟨m1,m2,m3,_,m5,m6,m7,m8,m9⟩:=(bt _).1 h3;have p1:=rC m2
 have p2:l[k].p.dir.length<=100:=by
  rw[m3];unfold bU;split
  ·exact p1
  exact UY _
 unfold UX num M;exact⟨⟨⟨h1,by omega⟩,by omega,⟨by omega,by omega⟩,by omega,by omega,by omega,by omega,⟨by omega,by omega⟩,⟨by omega,by omega⟩,by omega⟩,p2,p1,m5⟩
end Pm
end
end Go.Proofs.YtgafcelloiagmaaGreatDoor
