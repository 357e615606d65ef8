/- check.Newer, the program's and the document's (gen_j.py) -/
import Derived.Test.YtenaggleepoclaaGreatJm
import Derived.Test.YtenaggleepoclaaGreatFl
namespace Go.Proofs.YtenaggleepoclaaGreat
set_option maxRecDepth 20000
set_option linter.unusedVariables false
set_option linter.unusedSimpArgs false
open Go.RowKit Pm
/-- Is (a, b) newer than (c, d)? -/
def okN (n : Int) : Bool := decide (0 ≤ n) && decide (n ≤ 281474976710656)
def newer (a b c d : Int) : Bool := (okN a && okN b && okN c && okN d) && (decide (c < a) || (a == c && decide (d < b)))
set_option maxHeartbeats 1000000 in
theorem right_c (n : Int) (w : World) :
    Calls Tryz.prog 70 #[.int .i64 n] w fun e w' => e = .returned (.bool (okN n)) ∧ w = w' := by
  by_cases h1 : 0 ≤ n
  · have q1 : ((0 : Int) ≤ n) = True := eq_true h1
    have e : okN n = decide (n ≤ 281474976710656) := by unfold okN; rw [decide_eq_true h1, Bool.true_and]
    rw [e]; clear e h1
    go_enter Tryz.func70, Tryz.ntmps70
    go_wp2
    go_ret
    exact ⟨rfl, rfl⟩
  · have q1 : ((0 : Int) ≤ n) = False := eq_false h1
    have e : okN n = false := by unfold okN; rw [decide_eq_false h1, Bool.false_and]
    rw [e]; clear e h1
    go_enter Tryz.func70, Tryz.ntmps70
    go_wp2
    go_ret
    exact ⟨rfl, rfl⟩


theorem pair_c (a b : Nat) (w : World) (ha : a < 2 ^ 53) (hb : b < 2 ^ 53) :
    Calls Tryz.prog 71 #[.int .i64 (a : Int), .int .i64 (b : Int)] w fun e w' => e = .returned (.complex .f64 (fl a) (fl b)) ∧ w = w' := by
  have e1 := floatOf a ha
  have e2 := floatOf b hb
  clear ha hb
  go_enter Tryz.func71, Tryz.ntmps71
  go_wp2
  go_ret
  exact ⟨rfl, rfl⟩

/-- What two differences say. -/
def says : Ordering → Ordering → Bool
  | .gt, _ => true
  | .eq, .gt => true
  | _, _ => false

set_option maxHeartbeats 1000000 in
theorem Newer_run (a b c d : Int) (w : World) (x y u v p q : Nat) (oa : okN a = true) (ob : okN b = true) (oc : okN c = true) (od : okN d = true)
    (hp : Calls Tryz.prog 71 #[.int .i64 a, .int .i64 b] w fun e w' => e = .returned (.complex .f64 x y) ∧ w = w')
    (hq : Calls Tryz.prog 71 #[.int .i64 c, .int .i64 d] w fun e w' => e = .returned (.complex .f64 u v) ∧ w = w')
    (hsub : ∀ t : TypeId, (binOp .sub t (.complex .f64 x y) (.complex .f64 u v)).run Tryz.prog w = .ok (.complex .f64 p q) w)
    (o1 o2 : Ordering) (q1 : FloatKind.f64.format.order p 0 = some o1) (q2 : FloatKind.f64.format.order q 0 = some o2) :
    Calls Tryz.prog 55 #[.int .i64 a, .int .i64 b, .int .i64 c, .int .i64 d] w fun e w' => e = .returned (.bool (says o1 o2)) ∧ w = w' := by
  have HP := Lib.hid (And.intro hp hq); clear hp hq
  cases o1 <;> cases o2 <;> (
    simp only [says]
    go_enter Tryz.func55, Tryz.ntmps55
    go_wp2_with fail
    refine (right_c _ w).mono ?_
    rintro e w1 ⟨rfl, rfl⟩
    rw [oa]
    go_wp2_with fail
    refine (right_c _ w).mono ?_
    rintro e w1 ⟨rfl, rfl⟩
    rw [ob]
    go_wp2_with fail
    refine (right_c _ w).mono ?_
    rintro e w1 ⟨rfl, rfl⟩
    rw [oc]
    go_wp2_with fail
    refine (right_c _ w).mono ?_
    rintro e w1 ⟨rfl, rfl⟩
    rw [od]
    go_wp2_with fail
    refine HP.out.1.mono ?_
    rintro e w1 ⟨rfl, rfl⟩
    go_wp2_with fail
    refine HP.out.2.mono ?_
    rintro e w1 ⟨rfl, rfl⟩
    go_wp2
    go_ret
    exact ⟨rfl, rfl⟩)

theorem Newer_ok (a b c d : Nat) (w : World) (ha : a ≤ 281474976710656) (hb : b ≤ 281474976710656) (hc : c ≤ 281474976710656) (hd : d ≤ 281474976710656) :
    Calls Tryz.prog 55 #[.int .i64 (a : Int), .int .i64 (b : Int), .int .i64 (c : Int), .int .i64 (d : Int)] w fun e w' => e = .returned (.bool (newer a b c d)) ∧ w = w' := by
  have o : ∀ n : Nat, n ≤ 281474976710656 → okN (n : Int) = true := fun n h => by unfold okN; rw [decide_eq_true (by omega), decide_eq_true (by omega)]; rfl
  have s1 := sub_fl a c (by omega) (by omega)
  have s2 := sub_fl b d (by omega) (by omega)
  have k := Newer_run a b c d w _ _ _ _ (df a c) (df b d) (o a ha) (o b hb) (o c hc) (o d hd) (pair_c a b w (by omega) (by omega)) (pair_c c d w (by omega) (by omega))
    (fun t => run_complex_sum w .sub (.inr rfl) t .f64 _ _ _ _ _ _ (by unfold cSumBits; rw [s1, s2]; rfl))
    (compare a c) (compare b d) (order_zero a c (by omega) (by omega)) (order_zero b d (by omega) (by omega))
  have e : newer a b c d = says (compare a c) (compare b d) := by
    have en : newer a b c d = (decide ((c : Int) < a) || (((a : Int) == c) && decide ((d : Int) < b))) := by unfold newer; rw [o a ha, o b hb, o c hc, o d hd]; rfl
    rw [en]
    rcases Nat.lt_trichotomy a c with h | h | h
    · rw [Nat.compare_eq_lt.2 h, decide_eq_false (by omega), beq_eq_false_iff_ne.2 (by omega)]; rfl
    · subst h
      rw [Nat.compare_eq_eq.2 rfl, decide_eq_false (by omega), beq_self_eq_true]
      rcases Nat.lt_trichotomy b d with h | h | h
      · rw [Nat.compare_eq_lt.2 h, decide_eq_false (by omega)]; rfl
      · subst h; rw [Nat.compare_eq_eq.2 rfl, decide_eq_false (by omega)]; rfl
      · rw [Nat.compare_eq_gt.2 h, decide_eq_true (by omega)]; rfl
    · rw [Nat.compare_eq_gt.2 h, decide_eq_true (by omega)]; rfl
  rw [e]
  exact k

theorem Newer_no (a b c d : Int) (w : World) (h : (okN a && okN b && okN c && okN d) = false) :
    Calls Tryz.prog 55 #[.int .i64 a, .int .i64 b, .int .i64 c, .int .i64 d] w fun e w' => e = .returned (.bool (newer a b c d)) ∧ w = w' := by
  have en : newer a b c d = false := by unfold newer; rw [h]; rfl
  rw [en]
  clear en
  cases ea : okN a with
  | false =>
    clear h
    go_enter Tryz.func55, Tryz.ntmps55
    go_wp2_with fail
    refine (right_c _ w).mono ?_
    rintro e w1 ⟨rfl, rfl⟩
    rw [ea]
    go_wp2
    go_ret
    exact ⟨rfl, rfl⟩
  | true =>
  cases eb : okN b with
  | false =>
    clear h
    go_enter Tryz.func55, Tryz.ntmps55
    go_wp2_with fail
    refine (right_c _ w).mono ?_
    rintro e w1 ⟨rfl, rfl⟩
    rw [ea]
    go_wp2_with fail
    refine (right_c _ w).mono ?_
    rintro e w1 ⟨rfl, rfl⟩
    rw [eb]
    go_wp2
    go_ret
    exact ⟨rfl, rfl⟩
  | true =>
  cases ec : okN c with
  | false =>
    clear h
    go_enter Tryz.func55, Tryz.ntmps55
    go_wp2_with fail
    refine (right_c _ w).mono ?_
    rintro e w1 ⟨rfl, rfl⟩
    rw [ea]
    go_wp2_with fail
    refine (right_c _ w).mono ?_
    rintro e w1 ⟨rfl, rfl⟩
    rw [eb]
    go_wp2_with fail
    refine (right_c _ w).mono ?_
    rintro e w1 ⟨rfl, rfl⟩
    rw [ec]
    go_wp2
    go_ret
    exact ⟨rfl, rfl⟩
  | true =>
  cases ed : okN d with
  | false =>
    clear h
    go_enter Tryz.func55, Tryz.ntmps55
    go_wp2_with fail
    refine (right_c _ w).mono ?_
    rintro e w1 ⟨rfl, rfl⟩
    rw [ea]
    go_wp2_with fail
    refine (right_c _ w).mono ?_
    rintro e w1 ⟨rfl, rfl⟩
    rw [eb]
    go_wp2_with fail
    refine (right_c _ w).mono ?_
    rintro e w1 ⟨rfl, rfl⟩
    rw [ec]
    go_wp2_with fail
    refine (right_c _ w).mono ?_
    rintro e w1 ⟨rfl, rfl⟩
    rw [ed]
    go_wp2
    go_ret
    exact ⟨rfl, rfl⟩
  | true =>
  rw [ea, eb, ec, ed] at h; cases h

theorem okN_nat {n : Int} (h : okN n = true) : ∃ k : Nat, n = (k : Int) ∧ k ≤ 281474976710656 := by
  unfold okN at h
  simp only [Bool.and_eq_true, decide_eq_true_eq] at h
  exact ⟨n.toNat, by omega, by omega⟩
theorem Newer_c (a b c d : Int) (w : World) :
    Calls Tryz.prog 55 #[.int .i64 a, .int .i64 b, .int .i64 c, .int .i64 d] w fun e w' => e = .returned (.bool (newer a b c d)) ∧ w = w' := by
  cases h : (okN a && okN b && okN c && okN d) with
  | false => exact Newer_no a b c d w h
  | true =>
    simp only [Bool.and_eq_true] at h
    obtain ⟨⟨⟨ha, hb⟩, hc⟩, hd⟩ := h
    obtain ⟨a, rfl, ka⟩ := okN_nat ha
    obtain ⟨b, rfl, kb⟩ := okN_nat hb
    obtain ⟨c, rfl, kc⟩ := okN_nat hc
    obtain ⟨d, rfl, kd⟩ := okN_nat hd
    exact Newer_ok a b c d w ka kb kc kd

theorem newer_eq (a b c d : Int) : newer a b c d = decide (((0 ≤ a ∧ a ≤ 281474976710656) ∧ (0 ≤ b ∧ b ≤ 281474976710656) ∧ (0 ≤ c ∧ c ≤ 281474976710656) ∧ (0 ≤ d ∧ d ≤ 281474976710656)) ∧ (c < a ∨ a = c ∧ d < b)) := by
  unfold newer okN
  simp only [Bool.decide_and, Bool.decide_or, ← Bool.and_assoc]
  congr 1

set_option maxHeartbeats 1000000 in
theorem RNewer_c (a b c d : Int) (w : World) :
    Calls Tryz.prog 34 #[.int .i64 a, .int .i64 b, .int .i64 c, .int .i64 d] w fun e w' => e = .returned (.bool (newer a b c d)) ∧ w = w' := by
  have k : ∀ r, newer a b c d = r → (Calls Tryz.prog 34 #[.int .i64 a, .int .i64 b, .int .i64 c, .int .i64 d] w fun e w' => e = .returned (.bool r) ∧ w = w') → (Calls Tryz.prog 34 #[.int .i64 a, .int .i64 b, .int .i64 c, .int .i64 d] w fun e w' => e = .returned (.bool (newer a b c d)) ∧ w = w') := fun r e h => by rw [e]; exact h
  by_cases h0 : a < 0
  · have q0 : (a < 0) = True := eq_true h0
    refine k false ((newer_eq a b c d).trans (decide_eq_false (by omega))) ?_
    clear k h0
    go_enter Tryz.func34, Tryz.ntmps34
    go_wp2
    go_ret
    exact ⟨rfl, rfl⟩
  have q0 : (a < 0) = False := eq_false h0
  by_cases h1 : b < 0
  · have q1 : (b < 0) = True := eq_true h1
    refine k false ((newer_eq a b c d).trans (decide_eq_false (by omega))) ?_
    clear k h0 h1
    go_enter Tryz.func34, Tryz.ntmps34
    go_wp2
    go_ret
    exact ⟨rfl, rfl⟩
  have q1 : (b < 0) = False := eq_false h1
  by_cases h2 : c < 0
  · have q2 : (c < 0) = True := eq_true h2
    refine k false ((newer_eq a b c d).trans (decide_eq_false (by omega))) ?_
    clear k h0 h1 h2
    go_enter Tryz.func34, Tryz.ntmps34
    go_wp2
    go_ret
    exact ⟨rfl, rfl⟩
  have q2 : (c < 0) = False := eq_false h2
  by_cases h3 : d < 0
  · have q3 : (d < 0) = True := eq_true h3
    refine k false ((newer_eq a b c d).trans (decide_eq_false (by omega))) ?_
    clear k h0 h1 h2 h3
    go_enter Tryz.func34, Tryz.ntmps34
    go_wp2
    go_ret
    exact ⟨rfl, rfl⟩
  have q3 : (d < 0) = False := eq_false h3
  by_cases h4 : 281474976710656 < a
  · have q4 : (281474976710656 < a) = True := eq_true h4
    refine k false ((newer_eq a b c d).trans (decide_eq_false (by omega))) ?_
    clear k h0 h1 h2 h3 h4
    go_enter Tryz.func34, Tryz.ntmps34
    go_wp2
    go_ret
    exact ⟨rfl, rfl⟩
  have q4 : (281474976710656 < a) = False := eq_false h4
  by_cases h5 : 281474976710656 < b
  · have q5 : (281474976710656 < b) = True := eq_true h5
    refine k false ((newer_eq a b c d).trans (decide_eq_false (by omega))) ?_
    clear k h0 h1 h2 h3 h4 h5
    go_enter Tryz.func34, Tryz.ntmps34
    go_wp2
    go_ret
    exact ⟨rfl, rfl⟩
  have q5 : (281474976710656 < b) = False := eq_false h5
  by_cases h6 : 281474976710656 < c
  · have q6 : (281474976710656 < c) = True := eq_true h6
    refine k false ((newer_eq a b c d).trans (decide_eq_false (by omega))) ?_
    clear k h0 h1 h2 h3 h4 h5 h6
    go_enter Tryz.func34, Tryz.ntmps34
    go_wp2
    go_ret
    exact ⟨rfl, rfl⟩
  have q6 : (281474976710656 < c) = False := eq_false h6
  by_cases h7 : 281474976710656 < d
  · have q7 : (281474976710656 < d) = True := eq_true h7
    refine k false ((newer_eq a b c d).trans (decide_eq_false (by omega))) ?_
    clear k h0 h1 h2 h3 h4 h5 h6 h7
    go_enter Tryz.func34, Tryz.ntmps34
    go_wp2
    go_ret
    exact ⟨rfl, rfl⟩
  have q7 : (281474976710656 < d) = False := eq_false h7
  by_cases h : c < a
  · have q8 : (c < a) = True := eq_true h
    refine k true ((newer_eq a b c d).trans (decide_eq_true (by omega))) ?_
    clear k h0 h1 h2 h3 h4 h5 h6 h7 h
    go_enter Tryz.func34, Tryz.ntmps34
    go_wp2
    go_ret
    exact ⟨rfl, rfl⟩
  have q8 : (c < a) = False := eq_false h
  by_cases g : a = c
  · have q9 : (a == c) = true := beq_iff_eq.2 g
    by_cases f : d < b
    · have q10 : (d < b) = True := eq_true f
      refine k true ((newer_eq a b c d).trans (decide_eq_true (by omega))) ?_
      clear k h0 h1 h2 h3 h4 h5 h6 h7 h g f
      go_enter Tryz.func34, Tryz.ntmps34
      go_wp2
      go_ret
      exact ⟨rfl, rfl⟩
    · have q10 : (d < b) = False := eq_false f
      refine k false ((newer_eq a b c d).trans (decide_eq_false (by omega))) ?_
      clear k h0 h1 h2 h3 h4 h5 h6 h7 h g f
      go_enter Tryz.func34, Tryz.ntmps34
      go_wp2
      go_ret
      exact ⟨rfl, rfl⟩
  · have q9 : (a == c) = false := beq_eq_false_iff_ne.2 g
    refine k false ((newer_eq a b c d).trans (decide_eq_false (by omega))) ?_
    clear k h0 h1 h2 h3 h4 h5 h6 h7 h g
    go_enter Tryz.func34, Tryz.ntmps34
    go_wp2
    go_ret
    exact ⟨rfl, rfl⟩

end Go.Proofs.YtenaggleepoclaaGreat
