/- check.Newer, the program's and the document's (gen_j.py) -/
import Derived.Test.YtenaggleepoclaaJm
import Derived.Test.YtenaggleepoclaaFl
namespace Go.Proofs.Ytenaggleepoclaa
set_option maxRecDepth 20000
set_option linter.unusedVariables false
set_option linter.unusedSimpArgs false
open Go.RowKit Pm
/-- Is (a, b) newer than (c, d)? -/
def okN (n : Int) : Bool := decide (0 ≤ n) && decide (n ≤ 281474976710656)
def newer (a b c d : Int) : Bool := (okN a && okN b && okN c && okN d) && (decide (c < a) || (a == c && decide (d < b)))
set_option maxHeartbeats 1000000 in
theorem right_c (n : Int) (w : World) :
    Calls Try.prog 49 #[.int .i64 n] w fun e w' => e = .returned (.bool (okN n)) ∧ w = w' := by
  by_cases h1 : 0 ≤ n
  · have q1 : ((0 : Int) ≤ n) = True := eq_true h1
    have e : okN n = decide (n ≤ 281474976710656) := by unfold okN; rw [decide_eq_true h1, Bool.true_and]
    rw [e]; clear e h1
    go_enter Try.func49, Try.ntmps49
    go_wp2
    go_ret
    exact ⟨rfl, rfl⟩
  · have q1 : ((0 : Int) ≤ n) = False := eq_false h1
    have e : okN n = false := by unfold okN; rw [decide_eq_false h1, Bool.false_and]
    rw [e]; clear e h1
    go_enter Try.func49, Try.ntmps49
    go_wp2
    go_ret
    exact ⟨rfl, rfl⟩


theorem pair_c (a b : Nat) (w : World) (ha : a < 2 ^ 53) (hb : b < 2 ^ 53) :
    Calls Try.prog 50 #[.int .i64 (a : Int), .int .i64 (b : Int)] w fun e w' => e = .returned (.complex .f64 (fl a) (fl b)) ∧ w = w' := by
  have e1 := floatOf a ha
  have e2 := floatOf b hb
  clear ha hb
  go_enter Try.func50, Try.ntmps50
  go_wp2
  go_ret
  exact ⟨rfl, rfl⟩

/-- What two differences say. -/
def says : Ordering → Ordering → Bool
  | .gt, _ => true
  | .eq, .gt => true
  | _, _ => false

set_option maxHeartbeats 1000000 in
theorem Newer_run (a b c d : Int) (w : World) (x y u v p q : Nat) (oa : okN a = true) (ob : okN b = true) (oc : okN c = true) (od : okN d = true)
    (hp : Calls Try.prog 50 #[.int .i64 a, .int .i64 b] w fun e w' => e = .returned (.complex .f64 x y) ∧ w = w')
    (hq : Calls Try.prog 50 #[.int .i64 c, .int .i64 d] w fun e w' => e = .returned (.complex .f64 u v) ∧ w = w')
    (hsub : ∀ t : TypeId, (binOp .sub t (.complex .f64 x y) (.complex .f64 u v)).run Try.prog w = .ok (.complex .f64 p q) w)
    (o1 o2 : Ordering) (q1 : FloatKind.f64.format.order p 0 = some o1) (q2 : FloatKind.f64.format.order q 0 = some o2) :
    Calls Try.prog 35 #[.int .i64 a, .int .i64 b, .int .i64 c, .int .i64 d] w fun e w' => e = .returned (.bool (says o1 o2)) ∧ w = w' := by
  have HP := Lib.hid (And.intro hp hq); clear hp hq
  cases o1 <;> cases o2 <;> (
    simp only [says]
    go_enter Try.func35, Try.ntmps35
    go_wp2_with fail
    refine (right_c _ w).mono ?_
    rintro e w1 ⟨rfl, rfl⟩
    rw [oa]
    go_wp2_with fail
    refine (right_c _ w).mono ?_
    rintro e w1 ⟨rfl, rfl⟩
    rw [ob]
    go_wp2_with fail
    refine (right_c _ w).mono ?_
    rintro e w1 ⟨rfl, rfl⟩
    rw [oc]
    go_wp2_with fail
    refine (right_c _ w).mono ?_
    rintro e w1 ⟨rfl, rfl⟩
    rw [od]
    go_wp2_with fail
    refine HP.out.1.mono ?_
    rintro e w1 ⟨rfl, rfl⟩
    go_wp2_with fail
    refine HP.out.2.mono ?_
    rintro e w1 ⟨rfl, rfl⟩
    go_wp2
    go_ret
    exact ⟨rfl, rfl⟩)

theorem Newer_ok (a b c d : Nat) (w : World) (ha : a ≤ 281474976710656) (hb : b ≤ 281474976710656) (hc : c ≤ 281474976710656) (hd : d ≤ 281474976710656) :
    Calls Try.prog 35 #[.int .i64 (a : Int), .int .i64 (b : Int), .int .i64 (c : Int), .int .i64 (d : Int)] w fun e w' => e = .returned (.bool (newer a b c d)) ∧ w = w' := by
  have o : ∀ n : Nat, n ≤ 281474976710656 → okN (n : Int) = true := fun n h => by unfold okN; rw [decide_eq_true (by omega), decide_eq_true (by omega)]; rfl
  have s1 := sub_fl a c (by omega) (by omega)
  have s2 := sub_fl b d (by omega) (by omega)
  have k := Newer_run a b c d w _ _ _ _ (df a c) (df b d) (o a ha) (o b hb) (o c hc) (o d hd) (pair_c a b w (by omega) (by omega)) (pair_c c d w (by omega) (by omega))
    (fun t => run_complex_sum w .sub (.inr rfl) t .f64 _ _ _ _ _ _ (by unfold cSumBits; rw [s1, s2]; rfl))
    (compare a c) (compare b d) (order_zero a c (by omega) (by omega)) (order_zero b d (by omega) (by omega))
  have e : newer a b c d = says (compare a c) (compare b d) := by
    have en : newer a b c d = (decide ((c : Int) < a) || (((a : Int) == c) && decide ((d : Int) < b))) := by unfold newer; rw [o a ha, o b hb, o c hc, o d hd]; rfl
    rw [en]
    rcases Nat.lt_trichotomy a c with h | h | h
    · rw [Nat.compare_eq_lt.2 h, decide_eq_false (by omega), beq_eq_false_iff_ne.2 (by omega)]; rfl
    · subst h
      rw [Nat.compare_eq_eq.2 rfl, decide_eq_false (by omega), beq_self_eq_true]
      rcases Nat.lt_trichotomy b d with h | h | h
      · rw [Nat.compare_eq_lt.2 h, decide_eq_false (by omega)]; rfl
      · subst h; rw [Nat.compare_eq_eq.2 rfl, decide_eq_false (by omega)]; rfl
      · rw [Nat.compare_eq_gt.2 h, decide_eq_true (by omega)]; rfl
    · rw [Nat.compare_eq_gt.2 h, decide_eq_true (by omega)]; rfl
  rw [e]
  exact k

theorem Newer_no (a b c d : Int) (w : World) (h : (okN a && okN b && okN c && okN d) = false) :
    Calls Try.prog 35 #[.int .i64 a, .int .i64 b, .int .i64 c, .int .i64 d] w fun e w' => e = .returned (.bool (newer a b c d)) ∧ w = w' := by
  have en : newer a b c d = false := by unfold newer; rw [h]; rfl
  rw [en]
  clear en
  cases ea : okN a with
  | false =>
    clear h
    go_enter Try.func35, Try.ntmps35
    go_wp2_with fail
    refine (right_c _ w).mono ?_
    rintro e w1 ⟨rfl, rfl⟩
    rw [ea]
    go_wp2
    go_ret
    exact ⟨rfl, rfl⟩
  | true =>
  cases eb : okN b with
  | false =>
    clear h
    go_enter Try.func35, Try.ntmps35
    go_wp2_with fail
    refine (right_c _ w).mono ?_
    rintro e w1 ⟨rfl, rfl⟩
    rw [ea]
    go_wp2_with fail
    refine (right_c _ w).mono ?_
    rintro e w1 ⟨rfl, rfl⟩
    rw [eb]
    go_wp2
    go_ret
    exact ⟨rfl, rfl⟩
  | true =>
  cases ec : okN c with
  | false =>
    clear h
    go_enter Try.func35, Try.ntmps35
    go_wp2_with fail
    refine (right_c _ w).mono ?_
    rintro e w1 ⟨rfl, rfl⟩
    rw [ea]
    go_wp2_with fail
    refine (right_c _ w).mono ?_
    rintro e w1 ⟨rfl, rfl⟩
    rw [eb]
    go_wp2_with fail
    refine (right_c _ w).mono ?_
    rintro e w1 ⟨rfl, rfl⟩
    rw [ec]
    go_wp2
    go_ret
    exact ⟨rfl, rfl⟩
  | true =>
  cases ed : okN d with
  | false =>
    clear h
    go_enter Try.func35, Try.ntmps35
    go_wp2_with fail
    refine (right_c _ w).mono ?_
    rintro e w1 ⟨rfl, rfl⟩
    rw [ea]
    go_wp2_with fail
    refine (right_c _ w).mono ?_
    rintro e w1 ⟨rfl, rfl⟩
    rw [eb]
    go_wp2_with fail
    refine (right_c _ w).mono ?_
    rintro e w1 ⟨rfl, rfl⟩
    rw [ec]
    go_wp2_with fail
    refine (right_c _ w).mono ?_
    rintro e w1 ⟨rfl, rfl⟩
    rw [ed]
    go_wp2
    go_ret
    exact ⟨rfl, rfl⟩
  | true =>
  rw [ea, eb, ec, ed] at h; cases h

theorem okN_nat {n : Int} (h : okN n = true) : ∃ k : Nat, n = (k : Int) ∧ k ≤ 281474976710656 := by
  unfold okN at h
  simp only [Bool.and_eq_true, decide_eq_true_eq] at h
  exact ⟨n.toNat, by omega, by omega⟩
theorem Newer_c (a b c d : Int) (w : World) :
    Calls Try.prog 35 #[.int .i64 a, .int .i64 b, .int .i64 c, .int .i64 d] w fun e w' => e = .returned (.bool (newer a b c d)) ∧ w = w' := by
  cases h : (okN a && okN b && okN c && okN d) with
  | false => exact Newer_no a b c d w h
  | true =>
    simp only [Bool.and_eq_true] at h
    obtain ⟨⟨⟨ha, hb⟩, hc⟩, hd⟩ := h
    obtain ⟨a, rfl, ka⟩ := okN_nat ha
    obtain ⟨b, rfl, kb⟩ := okN_nat hb
    obtain ⟨c, rfl, kc⟩ := okN_nat hc
    obtain ⟨d, rfl, kd⟩ := okN_nat hd
    exact Newer_ok a b c d w ka kb kc kd

theorem newer_eq (a b c d : Int) : newer a b c d = decide (((0 ≤ a ∧ a ≤ 281474976710656) ∧ (0 ≤ b ∧ b ≤ 281474976710656) ∧ (0 ≤ c ∧ c ≤ 281474976710656) ∧ (0 ≤ d ∧ d ≤ 281474976710656)) ∧ (c < a ∨ a = c ∧ d < b)) := by
  unfold newer okN
  simp only [Bool.decide_and, Bool.decide_or, ← Bool.and_assoc]
  congr 1

end Go.Proofs.Ytenaggleepoclaa
