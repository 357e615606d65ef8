/- path.In and path.Numbered. -/
import Derived.Test.YtenaggleepoclaaGreatPa
namespace Go.Proofs.YtenaggleepoclaaGreat
set_option maxRecDepth 20000
open Go.RowKit Pm

theorem prefix_take (a b : List Bs) : decide ((b.map B) = (a.map B).take b.length) = b.isPrefixOf a := by
  rw [Bool.eq_iff_iff, List.isPrefixOf_iff_prefix]
  simp only [decide_eq_true_eq]
  rw [← List.map_take, List.map_inj_right (fun x y h => B_inj h), List.prefix_iff_eq_take]

/-- The four digits, and strconv's. -/
theorem four (n : Nat) (h : n ≤ 9999) : (Lib.itoa n).length ≤ 4 ∧ ([48, 48, 48, 48].drop (Lib.itoa n).length).take (4 - (Lib.itoa n).length) ++ Lib.itoa n = dig n := by
  have e : Lib.itoa n = Lib.decDigits n := by unfold Lib.itoa; rw [if_neg (by omega)]; rfl
  rw [e]
  by_cases h1 : n < 10
  · have d : Lib.decDigits n = [UInt8.ofNat (48 + n)] := by rw [Lib.decDigits, dif_pos h1]
    rw [d]; refine ⟨by simp, ?_⟩
    simp [dig, show n / 1000 = 0 by omega, show n / 100 = 0 by omega, show n / 10 = 0 by omega, Nat.mod_eq_of_lt h1]
  · by_cases h2 : n < 100
    · have d : Lib.decDigits n = [UInt8.ofNat (48 + n / 10), UInt8.ofNat (48 + n % 10)] := by
        rw [Lib.decDigits, dif_neg h1, Lib.decDigits, dif_pos (by omega)]; rfl
      rw [d]; refine ⟨by simp, ?_⟩
      simp [dig, show n / 1000 = 0 by omega, show n / 100 = 0 by omega, show n / 10 % 10 = n / 10 by omega]
    · by_cases h3 : n < 1000
      · have d : Lib.decDigits n = [UInt8.ofNat (48 + n / 100), UInt8.ofNat (48 + n / 10 % 10), UInt8.ofNat (48 + n % 10)] := by
          rw [Lib.decDigits, dif_neg h1, Lib.decDigits, dif_neg (by omega), Lib.decDigits, dif_pos (by omega), Nat.div_div_eq_div_mul]; rfl
        rw [d]; refine ⟨by simp, ?_⟩
        simp [dig, show n / 1000 = 0 by omega, show n / 100 % 10 = n / 100 by omega]
      · have d : Lib.decDigits n = [UInt8.ofNat (48 + n / 1000), UInt8.ofNat (48 + n / 100 % 10), UInt8.ofNat (48 + n / 10 % 10), UInt8.ofNat (48 + n % 10)] := by
          rw [Lib.decDigits, dif_neg h1, Lib.decDigits, dif_neg (by omega), Lib.decDigits, dif_neg (by omega), Lib.decDigits, dif_pos (by omega), show n / 10 / 10 / 10 = n / 1000 by omega, show n / 10 / 10 = n / 100 by omega]; rfl
        rw [d]; refine ⟨by simp, ?_⟩
        simp [dig]

end Go.Proofs.YtenaggleepoclaaGreat
