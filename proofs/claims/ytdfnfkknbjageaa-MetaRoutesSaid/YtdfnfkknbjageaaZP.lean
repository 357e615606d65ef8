/- Texts of this proof, merged. -/
import Derived.Test.YtdfnfkknbjageaaZA
import Derived.Test.YtdfnfkknbjageaaZO
set_option linter.unusedVariables false
set_option linter.unusedSimpArgs false
/- The document's own answer to layer 1, walked. -/

namespace Go.Proofs.Ytdfnfkknbjageaa
set_option maxRecDepth 20000
open Go.RowKit Pm

set_option maxHeartbeats 1000000 in
theorem rPart_c (l : Bs) (w : World) (hl : l.length ≤ 9223372036854775807) :
    Calls Try.prog 65 #[.string (B l)] w fun e w' => e = .returned (.bool (isPart l)) ∧ w = w' := by
  go_enter Try.func65, Try.ntmps65
  go_wp2
  go_loop [3] (fun i => ∃ k : Nat, k ≤ l.length ∧ i = .int .i64 k ∧ Hid (∀ i (h : i < l.length), i < k → okB l[i] = true)) (fun i => l.length - (intOf i).toNat)
  case atStart => exact ⟨0, by omega, rfl, fun i h hn => by omega⟩
  case round =>
    obtain ⟨k, hk, rfl, ha⟩ := hrel
    by_cases h1 : k < l.length
    · obtain ⟨n, hn⟩ : ∃ n, (l[k]).toNat = n := ⟨_, rfl⟩
      by_cases hok : okN n = true
      · have hnx : Hid (∀ i (h : i < l.length), i < k + 1 → okB l[i] = true) := fun i hi hik => by
          by_cases e : i = k
          · subst e; unfold okB; rw [hn]; exact hok
          · exact ha i hi (by omega)
        clear ha
        have hd : n = 45 ∨ (97 ≤ n ∧ n ≤ 122) ∨ (48 ≤ n ∧ n ≤ 57) := by unfold okN at hok; simp at hok; omega
        clear hok
        rcases hd with rfl | ⟨d1, d2⟩ | ⟨d1, d2⟩
        all_goals (
          go_wp2
          go_round
          case rel => exact ⟨k + 1, by omega, by go_num, hnx⟩
          case measure => simp [intOf]; omega)
      · have hbad : isPart l = false := by
          rw [isPart_all, Bool.and_eq_false_iff]; right
          rw [List.all_eq_false]
          exact ⟨l[k], List.getElem_mem h1, by unfold okB; rw [hn]; exact hok⟩
        have HB := Lib.hid hbad; clear hbad ha
        have hd : n < 45 ∨ (45 < n ∧ n < 48) ∨ (57 < n ∧ n < 97) ∨ 122 < n := by unfold okN at hok; simp at hok; omega
        clear hok
        rcases hd with d1 | ⟨d1, d2⟩ | ⟨d1, d2⟩ | d1
        all_goals (
          have hne : ((n : Int) != 45) = true := by rw [bne_iff_ne]; omega
          go_wp2
          go_ret
          exact ⟨ret_bool HB.out.symm, rfl⟩)
    · have hke : k = l.length := by omega
      subst hke
      have hall : l.all okB = true := by
        rw [List.all_eq_true]; intro c hc
        obtain ⟨i, hi, rfl⟩ := List.getElem_of_mem hc
        exact ha i hi hi
      have hp : isPart l = decide (1 ≤ l.length ∧ l.length ≤ 12) := by rw [isPart_all, hall, Bool.and_true]
      have HP := Lib.hid hp; clear hp hall ha
      go_wp2
      all_goals (go_ret; refine ⟨ret_bool ?_, rfl⟩; rw [HP.out, Bool.eq_iff_iff]; simp; omega)
end Go.Proofs.Ytdfnfkknbjageaa

