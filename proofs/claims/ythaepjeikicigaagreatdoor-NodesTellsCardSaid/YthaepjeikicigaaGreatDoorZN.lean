/- Texts of this proof, merged. -/
import Derived.Test.YthaepjeikicigaaGreatDoorZI
import Derived.Test.YthaepjeikicigaaGreatDoorZJ
/- May, whole. -/
namespace Go.Proofs.YthaepjeikicigaaGreatDoor
set_option linter.unusedSimpArgs false
set_option linter.unusedVariables false
set_option maxRecDepth 20000
set_option linter.unusedVariables false
set_option linter.unusedSimpArgs false
open Go.RowKit Pm
theorem may_kind_false {o : Opn} (h : ¬ (1 ≤ o.kind ∧ o.kind ≤ 7)) : may o = false := by
  cases hm : may o with
  | false => rfl
  | true => have := may_kind hm; omega
theorem may_split_false {o : Opn} (h : (split o.path).isSome = false) : may o = false := by
  cases hm : may o with
  | false => rfl
  | true => rw [may_split hm] at h; cases h
set_option maxHeartbeats 2000000 in
theorem May_c (o : Opn) (w : World) (hl : o.path.length ≤ 1000000) :
    Calls Tryz.prog 13 #[opV o] w fun e w' => e = .returned (.bool (may o)) ∧ Fp Non w w' := by
  by_cases hk : 1 ≤ o.kind ∧ o.kind ≤ 7
  · cases hs : (split o.path).isSome with
    | true =>
      rcases (show o.kind = 1 ∨ o.kind = 2 ∨ o.kind = 3 ∨ o.kind = 4 ∨ o.kind = 5 ∨ o.kind = 6 ∨ o.kind = 7 by omega) with k | k | k | k | k | k | k
      · exact May_1 o w hs hl k
      · exact May_2 o w hs hl k
      · exact May_3 o w hs hl k
      · exact May_4 o w hs hl k
      · exact May_5 o w hs hl k
      · exact May_6 o w hs hl k
      · exact May_7 o w hs hl k
    | false =>
      rw [may_split_false hs]
      obtain ⟨k, p, d, v, ow, t⟩ := o
      unfold opV strV
      have hr := fun w => Right_g p w (sz_of hl (by omega))
      rw [show (split p).isSome = false from hs] at hr
      have HR := Lib.hid hr
      have q1 : (k < 1) = False := eq_false (by have := hk.1; simp at this; omega)
      have q2 : ((8 : Int) ≤ k) = False := eq_false (by have := hk.2; simp at this; omega)
      clear hr hs hl hk
      go_enter Tryz.func13, Tryz.ntmps13
      go_wp2_with fail
      refine (HR.out _).mono ?_
      rintro e w1 ⟨rfl, g1⟩
      have HF := Lib.hid (((Fp.refl Non w).alloc (.cells #[.int .i64 k, .string (B p), .string (B d), .int .i64 v, .int .i64 ow, .bool t] TO_)).then g1.fp)
      clear g1
      go_wp2
      go_ret
      exact ⟨rfl, HF.out⟩
  · rw [may_kind_false hk]
    obtain ⟨k, p, d, v, ow, t⟩ := o
    unfold opV strV
    by_cases h1 : k < 1
    · have q1 : (k < 1) = True := eq_true h1
      clear hk hl h1
      go_enter Tryz.func13, Tryz.ntmps13
      go_wp2
      go_ret
      exact ⟨rfl, (Fp.refl Non w).alloc _⟩
    · have q1 : (k < 1) = False := eq_false h1
      have q2 : ((8 : Int) ≤ k) = True := eq_true (by have : ¬ (1 ≤ k ∧ k ≤ 7) := hk; omega)
      clear hk hl h1
      go_enter Tryz.func13, Tryz.ntmps13
      go_wp2
      go_ret
      exact ⟨rfl, (Fp.refl Non w).alloc _⟩
end Go.Proofs.YthaepjeikicigaaGreatDoor
