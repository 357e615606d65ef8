/- Whole numbers as floats of 64 bits: exact up to 2^48, so are differences of two; how these stand to zero. -/
import Derived.WalkKit
import Derived.WalkLawsBesides
namespace Go.Proofs.YtenaggleepoclaaGreat
set_option maxRecDepth 20000
open Go.RowKit

/-- The rung of a whole number below 2^53. -/
def rung (n : Nat) : Nat := if n = 0 then 0 else (n.log2 + 1022) * 2 ^ 52 + n * 2 ^ (52 - n.log2)

theorem log_le {n : Nat} (h0 : n ≠ 0) (h : n < 2 ^ 53) : n.log2 ≤ 52 := by
  have := (Nat.log2_lt h0).2 h
  omega

theorem log_mul (n k : Nat) (h0 : n ≠ 0) : (n * 2 ^ k).log2 = n.log2 + k := by
  have hp : 0 < 2 ^ k := Nat.two_pow_pos k
  have hne : n * 2 ^ k ≠ 0 := Nat.mul_ne_zero h0 (by omega)
  have l1 : 2 ^ n.log2 ≤ n := Nat.log2_self_le h0
  have l2 : n < 2 ^ (n.log2 + 1) := Nat.lt_log2_self
  apply Nat.le_antisymm
  · have : n * 2 ^ k < 2 ^ (n.log2 + k + 1) := by
      rw [show n.log2 + k + 1 = (n.log2 + 1) + k by omega, Nat.pow_add]
      exact Nat.mul_lt_mul_of_pos_right l2 hp
    have := (Nat.log2_lt hne).2 this
    omega
  · rw [Nat.le_log2 hne, Nat.pow_add]
    exact Nat.mul_le_mul_right _ l1

/-- Written: n * 2^k, with its point k places up. -/
theorem near_eq (neg : Bool) (n k : Nat) (h : n < 2 ^ 53) : Ieee.double.nearest neg (n * 2 ^ k) (-(k : Int)) = Ieee.double.word neg (rung n) := by
  unfold Ieee.Format.nearest rung
  by_cases h0 : n = 0
  · subst h0; simp
  have hp : 0 < 2 ^ k := Nat.two_pow_pos k
  have hne : n * 2 ^ k ≠ 0 := Nat.mul_ne_zero h0 (by omega)
  have hL := log_le h0 h
  rw [if_neg hne, if_neg h0]
  simp only [log_mul n k h0]
  have hlp : Ieee.double.leastPlace = -1074 := by decide
  have hfb : (Ieee.double.fractionBits : Int) = 52 := by decide
  have hbi : Ieee.double.binade = 2 ^ 52 := by decide
  have hin : Ieee.double.infRung = 2047 * 2 ^ 52 := by decide
  rw [hlp, hfb, hbi, hin]
  have hmax : max (-(k : Int) + ((n.log2 + k : Nat) : Int) - 52) (-1074) = (n.log2 : Int) - 52 := by omega
  rw [hmax]
  have hcut : Ieee.Toward.even.cut neg ((n * 2 ^ k) <<< (-(k : Int) - ((n.log2 : Int) - 52)).toNat) (((n.log2 : Int) - 52) - -(k : Int)).toNat = n * 2 ^ (52 - n.log2) := by
    by_cases hc : n.log2 + k ≤ 52
    · rw [show (((n.log2 : Int) - 52) - -(k : Int)).toNat = 0 by omega, show (-(k : Int) - ((n.log2 : Int) - 52)).toNat = 52 - n.log2 - k by omega, Nat.shiftLeft_eq, Nat.mul_assoc, ← Nat.pow_add, show k + (52 - n.log2 - k) = 52 - n.log2 by omega]
      unfold Ieee.Toward.cut
      simp [Nat.mod_one]
    · rw [show (-(k : Int) - ((n.log2 : Int) - 52)).toNat = 0 by omega, show (((n.log2 : Int) - 52) - -(k : Int)).toNat = n.log2 + k - 52 by omega, Nat.shiftLeft_eq, Nat.pow_zero, Nat.mul_one]
      unfold Ieee.Toward.cut
      rw [log_mul n k h0, Nat.min_eq_left (by omega), Nat.one_shiftLeft]
      have e : n * 2 ^ k = n * 2 ^ (52 - n.log2) * 2 ^ (n.log2 + k - 52) := by
        rw [Nat.mul_assoc, ← Nat.pow_add, show 52 - n.log2 + (n.log2 + k - 52) = k by omega]
      have hg : 0 < 2 ^ (n.log2 + k - 52) := Nat.two_pow_pos _
      rw [e]
      dsimp only
      rw [Nat.mul_mod_left, Nat.mul_div_cancel _ hg]
      simp
  rw [hcut]
  have hub : n * 2 ^ (52 - n.log2) < 2 ^ 53 := by
    have : n < 2 ^ (n.log2 + 1) := Nat.lt_log2_self
    calc n * 2 ^ (52 - n.log2) < 2 ^ (n.log2 + 1) * 2 ^ (52 - n.log2) := Nat.mul_lt_mul_of_pos_right this (Nat.two_pow_pos _)
      _ = 2 ^ 53 := by rw [← Nat.pow_add]; congr 1; omega
  rw [show (((n.log2 : Int) - 52) - -1074).toNat = n.log2 + 1022 by omega]
  refine congrArg (Ieee.double.word neg) (Nat.min_eq_left ?_)
  have : n.log2 + 1022 ≤ 1074 := by omega
  generalize n * 2 ^ (52 - n.log2) = K at *
  generalize n.log2 = L at *
  omega

/-- How a word reads: 'n * 2^k', its point k places up. -/
def Reads (b : Nat) (neg : Bool) (n : Nat) : Prop := ∃ k : Nat, k ≤ 1074 ∧ Ieee.double.read b = .number neg (n * 2 ^ k) (-(k : Int))

theorem read_rung (neg : Bool) (n : Nat) (h : n < 2 ^ 53) : Reads (Ieee.double.word neg (rung n)) neg n := by
  have hsw : Ieee.double.signWeight = 2 ^ 63 := by decide
  have hlp : Ieee.double.leastPlace = -1074 := by decide
  have hbi : Ieee.double.binade = 2 ^ 52 := by decide
  have hin : Ieee.double.infRung = 2047 * 2 ^ 52 := by decide
  have key : ∀ r, r < 2 ^ 63 → (Ieee.double.word neg r / 2 ^ 63 % 2 == 1) = neg ∧ Ieee.double.word neg r % 2 ^ 63 = r := by
    intro r hr
    unfold Ieee.Format.word
    rw [hsw]
    cases neg
    · simp only [Bool.false_eq_true, if_false]
      constructor
      · rw [Nat.div_eq_of_lt hr]; rfl
      · exact Nat.mod_eq_of_lt hr
    · simp only [if_true]
      constructor
      · rw [show (2 ^ 63 + r) / 2 ^ 63 = 1 by omega]; rfl
      · omega
  unfold Reads Ieee.Format.read
  rw [hsw, hlp, hbi, hin]
  by_cases h0 : n = 0
  · subst h0
    have hr : rung 0 = 0 := rfl
    rw [hr]
    have := key 0 (by omega)
    simp only [this.1, this.2]
    obtain ⟨k, hk⟩ : ∃ k : Nat, k = 1074 := ⟨_, rfl⟩
    refine ⟨k, by omega, ?_⟩
    rw [Nat.zero_mul]
    subst hk
    rfl
  have hL := log_le h0 h
  have hub : n * 2 ^ (52 - n.log2) < 2 ^ 53 := by
    have : n < 2 ^ (n.log2 + 1) := Nat.lt_log2_self
    calc n * 2 ^ (52 - n.log2) < 2 ^ (n.log2 + 1) * 2 ^ (52 - n.log2) := Nat.mul_lt_mul_of_pos_right this (Nat.two_pow_pos _)
      _ = 2 ^ 53 := by rw [← Nat.pow_add]; congr 1; omega
  have hlb : 2 ^ 52 ≤ n * 2 ^ (52 - n.log2) := by
    have : 2 ^ n.log2 ≤ n := Nat.log2_self_le h0
    calc 2 ^ 52 = 2 ^ n.log2 * 2 ^ (52 - n.log2) := by rw [← Nat.pow_add]; congr 1; omega
      _ ≤ n * 2 ^ (52 - n.log2) := Nat.mul_le_mul_right _ this
  have hr : rung n = (n.log2 + 1022) * 2 ^ 52 + n * 2 ^ (52 - n.log2) := by unfold rung; rw [if_neg h0]
  generalize hkk : n * 2 ^ (52 - n.log2) = K at *
  have hLn : n.log2 + 1022 ≤ 1074 := by omega
  rw [hr]
  generalize n.log2 = L at *
  have hs := key ((L + 1022) * 2 ^ 52 + K) (by omega)
  simp only [hs.1, hs.2]
  rw [if_neg (by omega), if_pos (by omega)]
  have hmod : ((L + 1022) * 2 ^ 52 + K) % 2 ^ 52 = K - 2 ^ 52 := by omega
  have hdiv : ((L + 1022) * 2 ^ 52 + K) / 2 ^ 52 = L + 1023 := by omega
  rw [hmod, hdiv]
  refine ⟨52 - L, by omega, ?_⟩
  rw [hkk]
  have a1 : 2 ^ 52 + (K - 2 ^ 52) = K := by omega
  have a2 : (-1074 : Int) + ((L + 1023 - 1 : Nat) : Int) = -((52 - L : Nat) : Int) := by omega
  rw [a1, a2]

/-- A whole number as a float. -/
def fl (n : Nat) : Nat := Ieee.double.word false (rung n)
theorem fl_read (n : Nat) (h : n < 2 ^ 53) : Reads (fl n) false n := read_rung false n h
theorem floatOf (n : Nat) (h : n < 2 ^ 53) : floatOfInt .f64 (n : Int) = fl n := by
  unfold floatOfInt FloatKind.nearest FloatKind.encode Ieee.Format.write
  have := near_eq false n 0 h
  rw [show decide ((n : Int) < 0) = false from decide_eq_false (by omega)]
  show Ieee.double.nearest false (n : Int).natAbs 0 = _
  rw [Int.natAbs_natCast]
  rw [Nat.pow_zero, Nat.mul_one] at this
  exact this

/-- The difference of two. -/
def df (a b : Nat) : Nat := Ieee.double.word (decide (a < b)) (rung (a - b + (b - a)))

theorem signed_eq (neg : Bool) (n k up : Nat) : Ieee.signed neg (n * 2 ^ k) up = (if neg then -1 else 1) * ((n * 2 ^ (k + up) : Nat) : Int) := by
  unfold Ieee.signed
  rw [Nat.shiftLeft_eq, Nat.mul_assoc, ← Nat.pow_add]
  cases neg <;> simp

theorem sub_fl (a b : Nat) (ha : a < 2 ^ 53) (hb : b < 2 ^ 53) : floatBits .sub .f64 (fl a) (fl b) = some (df a b) := by
  obtain ⟨i, hi, ri⟩ := fl_read a ha
  obtain ⟨j, hj, rj⟩ := fl_read b hb
  show Ieee.double.sub (fl a) (fl b) = _
  unfold Ieee.Format.sub
  rw [ri, rj]
  simp only [Ieee.Datum.opposite, Ieee.Datum.sum, Option.map_some, Bool.not_false, Bool.false_and]
  rw [signed_eq, signed_eq]
  have e1 : i + (-(i : Int) - min (-(i : Int)) (-(j : Int))).toNat = max i j := by omega
  have e2 : j + (-(j : Int) - min (-(i : Int)) (-(j : Int))).toNat = max i j := by omega
  have e3 : min (-(i : Int)) (-(j : Int)) = -((max i j : Nat) : Int) := by omega
  rw [e1, e2, e3]
  have hm : max i j ≤ 1074 := by omega
  generalize max i j = m at *
  have hp : 0 < 2 ^ m := Nat.two_pow_pos m
  have et : (if false = true then (-1 : Int) else 1) * ((a * 2 ^ m : Nat) : Int) + (if true = true then (-1 : Int) else 1) * ((b * 2 ^ m : Nat) : Int) = ((a : Int) - b) * ((2 ^ m : Nat) : Int) := by
    rw [if_neg (by decide), if_pos rfl, Int.sub_mul]; simp only [Int.natCast_mul]; omega
  rw [et]
  have hz : (((a : Int) - b) * ((2 ^ m : Nat) : Int) = 0) ↔ a = b := by
    constructor
    · intro h
      rcases Int.mul_eq_zero.1 h with h | h <;> omega
    · rintro rfl; simp
  have hl : decide (((a : Int) - b) * ((2 ^ m : Nat) : Int) < 0) = decide (a < b) := by
    apply decide_eq_decide.2
    constructor
    · intro h
      rcases Nat.lt_or_ge a b with h' | h'
      · exact h'
      · have := Int.mul_nonneg (show 0 ≤ (a : Int) - b by omega) (show 0 ≤ ((2 ^ m : Nat) : Int) by omega)
        omega
    · intro h
      exact Int.mul_neg_of_neg_of_pos (by omega) (by omega)
  have hna : (((a : Int) - b) * ((2 ^ m : Nat) : Int)).natAbs = (a - b + (b - a)) * 2 ^ m := by
    rw [Int.natAbs_mul, Int.natAbs_natCast]
    congr 1
    omega
  rw [hna]
  have hs : (if ((a : Int) - b) * ((2 ^ m : Nat) : Int) = 0 then false else decide (((a : Int) - b) * ((2 ^ m : Nat) : Int) < 0)) = decide (a < b) := by
    split
    · rename_i h; have := hz.1 h; simp [this]
    · exact hl
  rw [hs]
  show some (Ieee.double.nearest _ _ _) = _
  rw [near_eq _ _ m (by omega)]
  rfl

theorem order_zero (a b : Nat) (ha : a < 2 ^ 53) (hb : b < 2 ^ 53) : Ieee.double.order (df a b) 0 = some (compare a b) := by
  obtain ⟨i, hi, ri⟩ := read_rung (decide (a < b)) (a - b + (b - a)) (by omega)
  have r0 : Ieee.double.read 0 = .number false 0 (-1074) := by decide
  unfold Ieee.Format.order df
  rw [ri, r0]
  simp only [Ieee.Datum.order]
  rw [signed_eq]
  have s0 : Ieee.signed false 0 (-1074 - min (-(i : Int)) (-1074)).toNat = 0 := by simp [Ieee.signed]
  rw [s0]
  congr 1
  have hp : ∀ u, 0 < 2 ^ u := fun u => Nat.two_pow_pos u
  generalize i + (-(i : Int) - min (-(i : Int)) (-1074)).toNat = u
  have hu := hp u
  rcases Nat.lt_trichotomy a b with h | h | h
  · have e : a - b + (b - a) = b - a := by omega
    rw [e]
    have : 0 < (b - a) * 2 ^ u := Nat.mul_pos (by omega) hu
    rw [decide_eq_true h, if_pos rfl, Nat.compare_eq_lt.2 h]
    exact (Int.compare_eq_lt).2 (by omega)
  · subst h
    simp
  · have e : a - b + (b - a) = a - b := by omega
    rw [e]
    have : 0 < (a - b) * 2 ^ u := Nat.mul_pos (by omega) hu
    rw [decide_eq_false (by omega), if_neg (by decide), Nat.compare_eq_gt.2 h]
    exact (Int.compare_eq_gt).2 (by omega)
end Go.Proofs.YtenaggleepoclaaGreat
