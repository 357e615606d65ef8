/- The live question. -/
import Derived.Test.YtmaknpflipannaaNe
namespace Go.Proofs.Ytmaknpflipannaa
open Go.RowKit Pm

theorem Sl.one (w : World) (c : UInt8) : Sl (w.alloc (.cells #[.int .u8 (c.toNat : Int)] 5)) (.slice (some ⟨w.heap.size, 0, none⟩) 1 1) [c] := by
  refine ⟨_, 1, rfl, Nat.le_refl _, by unfold maxLen; omega, .inr ⟨w.heap.size, 0, rfl, by simp, fun j hj => ?_⟩⟩
  obtain rfl : j = 0 := by simpa using hj
  simp

set_option maxHeartbeats 1000000 in
theorem head_c (w : World) : Calls Try.prog 9 #[] w fun e w' => e = .returned (.bool true) ∧ Fp Non w w' := by
  have n0 := Sum_c 0 (.slice none 0 0) [] w (by omega) (Sl.nil w)
  rw [show sum 0 [] = 65537 from by decide] at n0
  have n1 := Sum_c 0 _ [0] _ (by omega) (Sl.one w 0)
  rw [show sum 0 [0] = 196610 from by decide] at n1
  have f1 : Fp Non w (w.alloc (.cells #[.int .u8 0] 5)) := (Fp.refl Non w).alloc _
  have a1 := Newer_c 2 0 1 9
  rw [show newer 2 0 1 9 = true from by decide] at a1
  have a2 := Newer_c 1 2 1 1
  rw [show newer 1 2 1 1 = true from by decide] at a2
  have a3 := Newer_c 1 1 1 1
  rw [show newer 1 1 1 1 = false from by decide] at a3
  have HN := Lib.hid (And.intro n0 (And.intro n1 (And.intro f1 (And.intro a1 (And.intro a2 a3))))); clear n0 n1 f1 a1 a2 a3
  go_enter Try.func9, Try.ntmps9
  go_wp2_with fail
  refine HN.out.1.mono ?_
  rintro e w1 ⟨rfl, rfl⟩
  go_wp2_with fail
  refine HN.out.2.1.mono ?_
  rintro e w1 ⟨rfl, rfl⟩
  go_wp2_with fail
  refine (HN.out.2.2.2.1 _).mono ?_
  rintro e w1 ⟨rfl, rfl⟩
  go_wp2_with fail
  refine (HN.out.2.2.2.2.1 _).mono ?_
  rintro e w1 ⟨rfl, rfl⟩
  go_wp2_with fail
  refine (HN.out.2.2.2.2.2 _).mono ?_
  rintro e w1 ⟨rfl, rfl⟩
  go_wp2
  go_ret
  exact ⟨rfl, HN.out.2.2.1⟩
end Go.Proofs.Ytmaknpflipannaa
