/- A disk without a fuse that is only written. -/
import Derived.Test.YtiafndcpggngoaaGr
import Derived.Test.YtiafndcpggngoaaLr
namespace Go.Proofs.Ytiafndcpggngoaa
open Go.RowKit Pm

structure WrAt (l : Bs) (k : Nat) (s : Dk) : Prop where
  rt : Rt s
  cl : s.cur.length = l.length
  ol : s.old = l
  fu : s.fuse = -1
  of : s.off = false
  ac : s.acts ≤ k
theorem WrAt.pw {l : Bs} {k : Nat} {s : Dk} (h : WrAt l k s) : pw s = s := by
  unfold Pm.pw
  have : decide (s.fuse = 0) = false := decide_eq_false (by have := h.fu; omega)
  rw [this, Bool.or_false]
theorem WrAt.mono {l : Bs} {k : Nat} {s : Dk} (h : WrAt l k s) : WrAt l (k + 1) s := ⟨h.rt, h.cl, h.ol, h.fu, h.of, Nat.le_succ_of_le h.ac⟩
theorem WrAt.write {l : Bs} {k : Nat} {s : Dk} (h : WrAt l k s) (a : Int) (b : Bs) : WrAt l (k + 1) (dWrite s a b).2 := by
  unfold dWrite
  rw [h.pw, if_neg (by rw [h.of]; exact Bool.false_ne_true)]
  split
  · rename_i hf
    have hle : a.toNat + b.length ≤ s.cur.length := by unfold fits at hf; omega
    refine ⟨(h.rt.put a.toNat b hle).did, ?_, h.ol, ?_, h.of, ?_⟩
    · show (spl s.cur a.toNat b).length = _; rw [spl_len _ _ _ hle]; exact h.cl
    · show (if 0 < s.fuse then s.fuse - 1 else s.fuse) = -1; rw [h.fu]; rfl
    · show s.acts + 1 ≤ k + 1; have := h.ac; omega
  · exact h.mono
theorem WrAt.of_ {l : Bs} (h : Rt (dOf l)) : WrAt l 0 (dOf l) := ⟨h, rfl, rfl, rfl, rfl, Nat.le_refl _⟩
end Go.Proofs.Ytiafndcpggngoaa
