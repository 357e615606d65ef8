/- The live question of layer 1's laws: its answer is true. -/
import Derived.Test.YtcmhfofeaghjpaaDoorPi
namespace Go.Proofs.YtcmhfofeaghjpaaDoor
open Go.RowKit Pm

theorem hd_parent (w : World) : Calls Tryd.prog 12 #[.string ⟨#[47, 97, 47, 98]⟩] w fun e w' => e = .returned (.tuple #[.string (B [47, 97]), .bool true]) ∧ Below w.heap.size w w' := by
  have := Parent_c [47, 97, 47, 98] w (by simp)
  rwa [show parent [47, 97, 47, 98] = some [47, 97] from by decide] at this
theorem hd_join (w : World) : Calls Tryd.prog 19 #[.string ⟨#[47]⟩, .string ⟨#[99]⟩] w fun e w' => e = .returned (.tuple #[.string (B [47, 99]), .bool true]) ∧ Below w.heap.size w w' := by
  have := Join_path_c [47] [99] w (by simp) (by simp)
  rwa [show join [47] [99] = some [47, 99] from by decide] at this
theorem hd_numbered (w : World) : Calls Tryd.prog 21 #[.string ⟨#[120]⟩, .int .i64 42] w fun e w' => e = .returned (.tuple #[.string (B [120, 48, 48, 52, 50]), .bool true]) ∧ Below w.heap.size w w' := by
  have := Numbered_c [120] 42 w (by simp) (by omega) (by omega) (Or.inl (by omega))
  rwa [show numbered [120] 42 = some [120, 48, 48, 52, 50] from by decide] at this
theorem hd_split (w : World) : Calls Tryd.prog 10 #[.string ⟨#[47, 97, 47, 98, 45, 49]⟩] w fun e w' => (∃ ao cap, e = .returned (.tuple #[.slice ao 2 cap, .bool true])) ∧ Below w.heap.size w w' := by
  refine (Split_c [47, 97, 47, 98, 45, 49] w (by simp)).mono ?_
  rintro e w' ⟨v, rfl, hown, hb⟩
  rw [show split [47, 97, 47, 98, 45, 49] = some [[97], [98, 45, 49]] from by decide] at hown ⊢
  have hown : Own w.heap.size w' v [[97], [98, 45, 49]] := hown
  obtain ⟨ao, cap, rfl⟩ := hown.shape
  exact ⟨⟨ao, cap, rfl⟩, hb⟩
theorem hd_right1 (w : World) : Calls Tryd.prog 14 #[.string ⟨#[47]⟩] w fun e w' => e = .returned (.bool true) ∧ Below w.heap.size w w' := by
  have := Right_c [47] w (by simp)
  rwa [show split [47] = some [] from by decide] at this
theorem hd_right2 (w : World) : Calls Tryd.prog 14 #[.string ⟨#[47, 97, 47]⟩] w fun e w' => e = .returned (.bool false) ∧ Below w.heap.size w w' := by
  have := Right_c [47, 97, 47] w (by simp)
  rwa [show split [47, 97, 47] = none from by decide] at this
theorem hd_last (w : World) : Calls Tryd.prog 17 #[.string ⟨#[47, 97, 47, 98]⟩] w fun e w' => e = .returned (.string (B [98])) ∧ Below w.heap.size w w' := by
  have := Last_c [47, 97, 47, 98] w (by simp)
  rwa [show last [47, 97, 47, 98] = [98] from by decide] at this
theorem hd_in1 (w : World) : Calls Tryd.prog 23 #[.string ⟨#[47, 97, 47, 98]⟩, .string ⟨#[47, 97]⟩] w fun e w' => e = .returned (.bool true) ∧ Below w.heap.size w w' := by
  have := In_c [47, 97, 47, 98] [47, 97] w (by simp) (by simp)
  rwa [show inB [47, 97, 47, 98] [47, 97] = true from by decide] at this
theorem hd_in2 (w : World) : Calls Tryd.prog 23 #[.string ⟨#[47, 97, 98]⟩, .string ⟨#[47, 97]⟩] w fun e w' => e = .returned (.bool false) ∧ Below w.heap.size w w' := by
  have := In_c [47, 97, 98] [47, 97] w (by simp) (by simp)
  rwa [show inB [47, 97, 98] [47, 97] = false from by decide] at this

set_option maxRecDepth 100000 in
set_option maxHeartbeats 2000000 in
theorem head_c (w : World) : Calls Tryd.prog 9 #[] w fun e w' => e = .returned (.bool true) ∧ Below w.heap.size w w' := by
  go_enter Tryd.func9, Tryd.ntmps9
  go_wp2_with fail
  refine (hd_parent w).mono ?_
  rintro e w1 ⟨rfl, b1⟩
  go_wp2_with fail
  refine (hd_join w1).mono ?_
  rintro e w2 ⟨rfl, c⟩
  have b2 := b1.trans (c.mono b1.size); clear c
  go_wp2_with fail
  refine (hd_numbered w2).mono ?_
  rintro e w3 ⟨rfl, c⟩
  have b3 := b2.trans (c.mono b2.size); clear c
  go_wp2_with fail
  refine (hd_split w3).mono ?_
  rintro e w4 ⟨⟨ao, cap, rfl⟩, c⟩
  have b4 := b3.trans (c.mono b3.size); clear c
  go_wp2_with fail
  refine (hd_right1 w4).mono ?_
  rintro e w5 ⟨rfl, c⟩
  have b5 := b4.trans (c.mono b4.size); clear c
  go_wp2_with fail
  refine (hd_right2 w5).mono ?_
  rintro e w6 ⟨rfl, c⟩
  have b6 := b5.trans (c.mono b5.size); clear c
  go_wp2_with fail
  refine (hd_last w6).mono ?_
  rintro e w7 ⟨rfl, c⟩
  have b7 := b6.trans (c.mono b6.size); clear c
  go_wp2_with fail
  refine (hd_in1 w7).mono ?_
  rintro e w8 ⟨rfl, c⟩
  have b8 := b7.trans (c.mono b7.size); clear c
  go_wp2_with fail
  refine (hd_in2 w8).mono ?_
  rintro e w9 ⟨rfl, c⟩
  have b9 := b8.trans (c.mono b8.size); clear c
  go_wp2
  go_ret
  exact ⟨rfl, b9⟩
end Go.Proofs.YtcmhfofeaghjpaaDoor
