/- A text of this proof. -/
import Derived.Test.YtgafcelloiagmaaGreatDoorZCBH
import Derived.Test.YtgafcelloiagmaaGreatDoorZCBI
set_option maxHeartbeats 16000000
set_option linter.unusedSimpArgs false
set_option linter.unusedVariables false
set_option maxRecDepth 20000
namespace Go.Proofs.YtgafcelloiagmaaGreatDoor
open Go.Proofs.Tryz
open Go.RowKit Pm
theorem Ow.type{lo:Nat}{w:World}{v:Value}{l:List Nd}(h:Ow lo w v l){k:Nat}(hk:v.ownBlock=some k):∃cs,w.heap[k]?=some (.cells cs TN (0,0)):=by
 rcases h.ways with⟨rfl,_⟩|⟨G,cap,rfl,hr,_⟩
 ·simp[Value.ownBlock]at hk
 have:G=k:=by simpa[Value.ownBlock]using hk
 subst this;obtain⟨rest,h1,_⟩:=hr.ex;exact⟨_,h1⟩
theorem ey.type{lo:Nat}{w:World}{v:Value}{l:List Tu}(h:ey lo w v l){k:Nat}(hk:v.ownBlock=some k):∃cs,w.heap[k]?=some (.cells cs TU (0,0)):=by
 rcases h.ways with⟨rfl,_⟩|⟨G,cap,rfl,hr,_⟩
 ·simp[Value.ownBlock]at hk
 have:G=k:=by simpa[Value.ownBlock]using hk
 subst this;obtain⟨rest,h1,_⟩:=hr.ex;exact⟨_,h1⟩
theorem iw{w:World}{i j:Nat}{c d:Array Value}{S T:TypeId}(h:w.heap[i]?=some (.cells c S (0,0)))(k:w.heap[j]?=some (.cells d T (0,0)))(Xg:S≠T):i≠j:=λe=>by
 rw[e,k]at h;injection h with h
 injection h with _ h _
 exact Xg h.symm
structure xA(u0:World)(vN:Value)(lN:List Nd)(vT:Value)(lT:List Tu)(b:Nat)(x:Bool)(u:World):Prop where
 f:Fp ab u0 u
 n:Ow u0.heap.size u vN lN
 t:ey u0.heap.size u vT lT
 x:x=true->u0.heap.size<=b/\u.heap[b]?=some (.cells #[.slice none 0 0,.slice none 0 0] aM (0,0))
section
variable {u0 u : World} {vN vT : Value} {lN : List Nd} {lT : List Tu} {b : Nat} {x : Bool}
theorem xA.start(u0:World):xA u0 (.slice none 0 0) [] (.slice none 0 0) [] 0 false u0:=⟨Fp.refl _ _,Ow.nil _ _,ey.nil _ _,λh=>by cases h⟩
theorem xA.af(h:xA u0 vN lN vT lT b x u){u':World}(f:Fp ab u u'):xA u0 vN lN vT lT b x u':=⟨h.f.then f,h.n.af f,h.t.af f,λe=>⟨(h.x e).1,f.heap (h.x e).2 id⟩⟩
theorem xA.box(h:xA u0 vN lN vT lT b false u):xA u0 vN lN vT lT u.heap.size true (u.alloc (.cells #[.slice none 0 0,.slice none 0 0] aM)):=by
 have k:=h.af (aa u (.cells #[.slice none 0 0,.slice none 0 0] aM));exact⟨k.f,k.n,k.t,λ_=>⟨h.f.size,heap_alloc_new u _⟩⟩
end
end Go.Proofs.YtgafcelloiagmaaGreatDoor
