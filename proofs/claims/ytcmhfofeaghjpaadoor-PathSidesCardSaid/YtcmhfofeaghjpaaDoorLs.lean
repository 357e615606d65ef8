/- Layer 1's laws, walked: PathSides. -/
import Derived.Test.YtcmhfofeaghjpaaDoorLb
namespace Go.Proofs.YtcmhfofeaghjpaaDoor
open Go.RowKit Pm

set_option maxRecDepth 100000 in
set_option maxHeartbeats 1000000 in
theorem PathSides_far (p a b : Bs) (w : World) (_hp : p.length ≤ 9223372036854775807) (_ha : a.length ≤ 9223372036854775807) (_hb : b.length ≤ 9223372036854775807) (h : 3000 < p.length ∨ 1000 < a.length ∨ 1000 < b.length) :
    Calls Tryd.prog 8 #[.string (B p), .string (B a), .string (B b)] w fun e w' => e = .returned (.bool true) ∧ Gr w w' := by
  by_cases h1 : 3000 < p.length
  · clear h
    go_enter Tryd.func8, Tryd.ntmps8
    go_wp2_with (first
      | (go_at_call 9; refine (head_g _).mono ?_; rintro e w1 ⟨rfl, g1⟩)
      | (go_at_call 12; refine (Parent_g _ _ (by assumption)).mono ?_; rintro e w1 ⟨rfl, g1⟩)
      | (go_at_call 17; refine (Last_g _ _ (by assumption)).mono ?_; rintro e w1 ⟨rfl, g1⟩)
      | (go_at_call 14; refine (Right_g _ _ (by assumption)).mono ?_; rintro e w1 ⟨rfl, g1⟩)
      | (go_at_call 19; refine (Join_g _ _ _ (by assumption) (by assumption)).mono ?_; rintro e w1 ⟨rfl, g1⟩)
      | (go_at_call 23; refine (In_g _ _ _ (by assumption) (by assumption)).mono ?_; rintro e w1 ⟨rfl, g1⟩))
    all_goals (go_ret; exact ⟨rfl, by repeat (first | assumption | exact Gr.refl _ | refine Gr.trans ?_ (by assumption))⟩)
  · by_cases h2 : 1000 < a.length
    · clear h
      go_enter Tryd.func8, Tryd.ntmps8
      go_wp2_with (first
        | (go_at_call 9; refine (head_g _).mono ?_; rintro e w1 ⟨rfl, g1⟩)
        | (go_at_call 12; refine (Parent_g _ _ (by assumption)).mono ?_; rintro e w1 ⟨rfl, g1⟩)
        | (go_at_call 17; refine (Last_g _ _ (by assumption)).mono ?_; rintro e w1 ⟨rfl, g1⟩)
        | (go_at_call 14; refine (Right_g _ _ (by assumption)).mono ?_; rintro e w1 ⟨rfl, g1⟩)
        | (go_at_call 19; refine (Join_g _ _ _ (by assumption) (by assumption)).mono ?_; rintro e w1 ⟨rfl, g1⟩)
        | (go_at_call 23; refine (In_g _ _ _ (by assumption) (by assumption)).mono ?_; rintro e w1 ⟨rfl, g1⟩))
      all_goals (go_ret; exact ⟨rfl, by repeat (first | assumption | exact Gr.refl _ | refine Gr.trans ?_ (by assumption))⟩)
    · have h3 : 1000 < b.length := (h.resolve_left h1).resolve_left h2
      clear h
      go_enter Tryd.func8, Tryd.ntmps8
      go_wp2_with (first
        | (go_at_call 9; refine (head_g _).mono ?_; rintro e w1 ⟨rfl, g1⟩)
        | (go_at_call 12; refine (Parent_g _ _ (by assumption)).mono ?_; rintro e w1 ⟨rfl, g1⟩)
        | (go_at_call 17; refine (Last_g _ _ (by assumption)).mono ?_; rintro e w1 ⟨rfl, g1⟩)
        | (go_at_call 14; refine (Right_g _ _ (by assumption)).mono ?_; rintro e w1 ⟨rfl, g1⟩)
        | (go_at_call 19; refine (Join_g _ _ _ (by assumption) (by assumption)).mono ?_; rintro e w1 ⟨rfl, g1⟩)
        | (go_at_call 23; refine (In_g _ _ _ (by assumption) (by assumption)).mono ?_; rintro e w1 ⟨rfl, g1⟩))
      all_goals (go_ret; exact ⟨rfl, by repeat (first | assumption | exact Gr.refl _ | refine Gr.trans ?_ (by assumption))⟩)

set_option maxRecDepth 100000 in
set_option maxHeartbeats 1000000 in
theorem PathSides_near (p a b : Bs) (w : World) (h1 : p.length ≤ 3000) (h2 : a.length ≤ 1000) (h3 : b.length ≤ 1000) :
    Calls Tryd.prog 8 #[.string (B p), .string (B a), .string (B b)] w fun e w' => e = .returned (.bool true) ∧ Gr w w' := by
  have sp : sz p := sz_of h1 (by omega)
  have sa : sz a := sz_of h2 (by omega)
  have sb : sz b := sz_of h3 (by omega)
  cases hx : join p a with
  | none =>
    cases hy : join p b with
    | none =>
      go_enter Tryd.func8, Tryd.ntmps8
      go_wp2_with (first
        | (go_at_call 9; refine (head_g _).mono ?_; rintro e w1 ⟨rfl, g1⟩)
        | (go_at_call 12; refine (Parent_g _ _ (by assumption)).mono ?_; rintro e w1 ⟨rfl, g1⟩)
        | (go_at_call 17; refine (Last_g _ _ (by assumption)).mono ?_; rintro e w1 ⟨rfl, g1⟩)
        | (go_at_call 14; refine (Right_g _ _ (by assumption)).mono ?_; rintro e w1 ⟨rfl, g1⟩)
        | (go_at_call 19; refine (Join_g _ _ _ (by assumption) (by assumption)).mono ?_; rintro e w1 ⟨rfl, g1⟩)
        | (go_at_call 23; refine (In_g _ _ _ (by assumption) (by assumption)).mono ?_; rintro e w1 ⟨rfl, g1⟩))
      all_goals (go_ret; exact ⟨rfl, by repeat (first | assumption | exact Gr.refl _ | refine Gr.trans ?_ (by assumption))⟩)
    | some y =>
      go_enter Tryd.func8, Tryd.ntmps8
      go_wp2_with (first
        | (go_at_call 9; refine (head_g _).mono ?_; rintro e w1 ⟨rfl, g1⟩)
        | (go_at_call 12; refine (Parent_g _ _ (by assumption)).mono ?_; rintro e w1 ⟨rfl, g1⟩)
        | (go_at_call 17; refine (Last_g _ _ (by assumption)).mono ?_; rintro e w1 ⟨rfl, g1⟩)
        | (go_at_call 14; refine (Right_g _ _ (by assumption)).mono ?_; rintro e w1 ⟨rfl, g1⟩)
        | (go_at_call 19; refine (Join_g _ _ _ (by assumption) (by assumption)).mono ?_; rintro e w1 ⟨rfl, g1⟩)
        | (go_at_call 23; refine (In_g _ _ _ (by assumption) (by assumption)).mono ?_; rintro e w1 ⟨rfl, g1⟩))
      all_goals (go_ret; exact ⟨rfl, by repeat (first | assumption | exact Gr.refl _ | refine Gr.trans ?_ (by assumption))⟩)
  | some x =>
    cases hy : join p b with
    | none =>
      go_enter Tryd.func8, Tryd.ntmps8
      go_wp2_with (first
        | (go_at_call 9; refine (head_g _).mono ?_; rintro e w1 ⟨rfl, g1⟩)
        | (go_at_call 12; refine (Parent_g _ _ (by assumption)).mono ?_; rintro e w1 ⟨rfl, g1⟩)
        | (go_at_call 17; refine (Last_g _ _ (by assumption)).mono ?_; rintro e w1 ⟨rfl, g1⟩)
        | (go_at_call 14; refine (Right_g _ _ (by assumption)).mono ?_; rintro e w1 ⟨rfl, g1⟩)
        | (go_at_call 19; refine (Join_g _ _ _ (by assumption) (by assumption)).mono ?_; rintro e w1 ⟨rfl, g1⟩)
        | (go_at_call 23; refine (In_g _ _ _ (by assumption) (by assumption)).mono ?_; rintro e w1 ⟨rfl, g1⟩))
      all_goals (go_ret; exact ⟨rfl, by repeat (first | assumption | exact Gr.refl _ | refine Gr.trans ?_ (by assumption))⟩)
    | some y =>
      obtain ⟨e1, e2, e3, e4⟩ := sides hx hy
      obtain ⟨_, _, _, _, l1⟩ := join_some hx
      obtain ⟨_, _, _, _, l2⟩ := join_some hy
      have sx : sz x := sz_of l1 (by omega)
      have sy : sz y := sz_of l2 (by omega)
      clear l1 l2
      cases hab : a == b with
      | true =>
        rw [hab] at e3
        go_enter Tryd.func8, Tryd.ntmps8
        go_wp2_with (first
          | (go_at_call 9; refine (head_g _).mono ?_; rintro e w1 ⟨rfl, g1⟩)
          | (go_at_call 12; refine (Parent_g _ _ (by assumption)).mono ?_; rintro e w1 ⟨rfl, g1⟩)
          | (go_at_call 17; refine (Last_g _ _ (by assumption)).mono ?_; rintro e w1 ⟨rfl, g1⟩)
          | (go_at_call 14; refine (Right_g _ _ (by assumption)).mono ?_; rintro e w1 ⟨rfl, g1⟩)
          | (go_at_call 19; refine (Join_g _ _ _ (by assumption) (by assumption)).mono ?_; rintro e w1 ⟨rfl, g1⟩)
          | (go_at_call 23; refine (In_g _ _ _ (by assumption) (by assumption)).mono ?_; rintro e w1 ⟨rfl, g1⟩))
        all_goals (go_ret; exact ⟨rfl, by repeat (first | assumption | exact Gr.refl _ | refine Gr.trans ?_ (by assumption))⟩)
      | false =>
        rw [hab] at e3
        go_enter Tryd.func8, Tryd.ntmps8
        go_wp2_with (first
          | (go_at_call 9; refine (head_g _).mono ?_; rintro e w1 ⟨rfl, g1⟩)
          | (go_at_call 12; refine (Parent_g _ _ (by assumption)).mono ?_; rintro e w1 ⟨rfl, g1⟩)
          | (go_at_call 17; refine (Last_g _ _ (by assumption)).mono ?_; rintro e w1 ⟨rfl, g1⟩)
          | (go_at_call 14; refine (Right_g _ _ (by assumption)).mono ?_; rintro e w1 ⟨rfl, g1⟩)
          | (go_at_call 19; refine (Join_g _ _ _ (by assumption) (by assumption)).mono ?_; rintro e w1 ⟨rfl, g1⟩)
          | (go_at_call 23; refine (In_g _ _ _ (by assumption) (by assumption)).mono ?_; rintro e w1 ⟨rfl, g1⟩))
        all_goals (go_ret; exact ⟨rfl, by repeat (first | assumption | exact Gr.refl _ | refine Gr.trans ?_ (by assumption))⟩)

theorem PathSides_c (p a b : Bs) (w : World) (hp : p.length ≤ 9223372036854775807) (ha : a.length ≤ 9223372036854775807) (hb : b.length ≤ 9223372036854775807) :
    Calls Tryd.prog 8 #[.string (B p), .string (B a), .string (B b)] w fun e w' => e = .returned (.bool true) ∧ Gr w w' := by
  by_cases h : 3000 < p.length ∨ 1000 < a.length ∨ 1000 < b.length
  · exact PathSides_far p a b w hp ha hb h
  · exact PathSides_near p a b w (Nat.le_of_not_lt fun k => h (Or.inl k)) (Nat.le_of_not_lt fun k => h (Or.inr (Or.inl k))) (Nat.le_of_not_lt fun k => h (Or.inr (Or.inr k)))
end Go.Proofs.YtcmhfofeaghjpaaDoor
