/- CheckNewer: the law's walk. -/
import Derived.Test.YtmaknpflipannaaHd
namespace Go.Proofs.Ytmaknpflipannaa
open Go.RowKit Pm

/-- What must be of three pairs' answers. -/
def fits (X Y Z W E F : Bool) : Bool := !(X && Y) && ((!X && !Y) == (E && F)) && (!(X && Z) || W)

theorem fits_newer (a b c d e f : Int) (ha : 0 ≤ a ∧ a ≤ 4294967295) (hb : 0 ≤ b ∧ b ≤ 4294967295) (hc : 0 ≤ c ∧ c ≤ 4294967295) (hd : 0 ≤ d ∧ d ≤ 4294967295) (he : 0 ≤ e ∧ e ≤ 4294967295) (hf : 0 ≤ f ∧ f ≤ 4294967295) :
    fits (newer a b c d) (newer c d a b) (newer c d e f) (newer a b e f) (a == c) (b == d) = true := by
  have k : ∀ a b c d : Int, 0 ≤ a ∧ a ≤ 4294967295 → 0 ≤ b ∧ b ≤ 4294967295 → 0 ≤ c ∧ c ≤ 4294967295 → 0 ≤ d ∧ d ≤ 4294967295 → newer a b c d = decide (c < a ∨ a = c ∧ d < b) := by
    intro a b c d ha hb hc hd
    rw [newer_eq]
    apply decide_eq_decide.2
    omega
  rw [k a b c d ha hb hc hd, k c d a b hc hd ha hb, k c d e f hc hd he hf, k a b e f ha hb he hf]
  have e1 : (a == c) = decide (a = c) := rfl
  have e2 : (b == d) = decide (b = d) := rfl
  rw [e1, e2]
  unfold fits
  clear k e1 e2
  rcases Int.lt_trichotomy a c with h | h | h
  · rw [decide_eq_false (show ¬ (c < a ∨ a = c ∧ d < b) by omega), decide_eq_true (show (a < c ∨ c = a ∧ b < d) by omega), decide_eq_false (show ¬ a = c by omega)]; simp
  · subst h
    rcases Int.lt_trichotomy b d with h | h | h
    · rw [decide_eq_false (show ¬ (a < a ∨ a = a ∧ d < b) by omega), decide_eq_true (show (a < a ∨ a = a ∧ b < d) by omega), decide_eq_false (show ¬ b = d by omega)]; simp
    · subst h
      rw [decide_eq_false (show ¬ (a < a ∨ a = a ∧ b < b) by omega)]; simp
    · rw [decide_eq_true (show (a < a ∨ a = a ∧ d < b) by omega), decide_eq_false (show ¬ (a < a ∨ a = a ∧ b < d) by omega), decide_eq_false (show ¬ b = d by omega)]
      by_cases h2 : e < a ∨ a = e ∧ f < d
      · rw [decide_eq_true h2, decide_eq_true (show e < a ∨ a = e ∧ f < b by omega)]; simp
      · rw [decide_eq_false h2]; simp
  · rw [decide_eq_true (show (c < a ∨ a = c ∧ d < b) by omega), decide_eq_false (show ¬ (a < c ∨ c = a ∧ b < d) by omega), decide_eq_false (show ¬ a = c by omega)]
    by_cases h2 : e < c ∨ c = e ∧ f < d
    · rw [decide_eq_true h2, decide_eq_true (show e < a ∨ a = e ∧ f < b by omega)]; simp
    · rw [decide_eq_false h2]; simp

set_option maxHeartbeats 4000000 in
theorem CheckNewer_c (a b c d e f : Int) (w : World) (ha : 0 ≤ a ∧ a ≤ 4294967295) (hb : 0 ≤ b ∧ b ≤ 4294967295) (hc : 0 ≤ c ∧ c ≤ 4294967295) (hd : 0 ≤ d ∧ d ≤ 4294967295) (he : 0 ≤ e ∧ e ≤ 4294967295) (hf : 0 ≤ f ∧ f ≤ 4294967295) :
    Calls Try.prog 6 #[.int .u32 a, .int .u32 b, .int .u32 c, .int .u32 d, .int .u32 e, .int .u32 f] w fun e w' => e = .returned (.bool true) ∧ Fp Non w w' := by
  have hfit := fits_newer a b c d e f ha hb hc hd he hf
  have hx := Newer_c a b c d
  have hy := Newer_c c d a b
  have hz := Newer_c c d e f
  have hw := Newer_c a b e f
  have hs := Newer_c a b a b
  have hns : newer a b a b = false := by rw [newer_eq]; exact decide_eq_false (by omega)
  rw [hns] at hs
  have hm := Newer_c (-1) 0 (-2) 0
  rw [show newer (-1) 0 (-2) 0 = false from by decide] at hm
  generalize newer a b c d = X at *
  generalize newer c d a b = Y at *
  generalize newer c d e f = Z at *
  generalize newer a b e f = V at *
  generalize hE : (a == c) = E at *
  generalize hF : (b == d) = F at *
  have HN := Lib.hid (And.intro hx (And.intro hy (And.intro hz (And.intro hw (And.intro hs hm))))); clear hx hy hz hw hs hm hns
  have HFIT := Lib.hid hfit; clear hfit
  go_enter Try.func6, Try.ntmps6
  go_wp2_with fail
  refine (head_c w).mono ?_
  rintro e w1 ⟨rfl, hfp⟩
  have HFP := Lib.hid hfp; clear hfp
  go_wp2_with fail
  refine (HN.out.1 _).mono ?_
  rintro e w2 ⟨rfl, rfl⟩
  go_wp2_with fail
  refine (HN.out.2.1 _).mono ?_
  rintro e w2 ⟨rfl, rfl⟩
  go_wp2_with fail
  refine (HN.out.2.2.1 _).mono ?_
  rintro e w2 ⟨rfl, rfl⟩
  go_wp2_with fail
  refine (HN.out.2.2.2.1 _).mono ?_
  rintro e w2 ⟨rfl, rfl⟩
  cases X <;> cases Y <;> cases Z <;> cases V <;> cases E <;> cases F <;> first
    | (exact absurd HFIT.out (by decide))
    | (go_wp2_with fail
       refine (HN.out.2.2.2.2.1 _).mono ?_
       rintro e w2 ⟨rfl, rfl⟩
       go_wp2_with fail
       refine (HN.out.2.2.2.2.2 _).mono ?_
       rintro e w2 ⟨rfl, rfl⟩
       go_wp2
       go_ret
       exact ⟨rfl, HFP.out⟩)
end Go.Proofs.Ytmaknpflipannaa
