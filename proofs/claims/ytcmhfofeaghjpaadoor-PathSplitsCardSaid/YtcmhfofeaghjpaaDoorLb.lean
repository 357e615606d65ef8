/- Layer 1's laws, walked: PathBack. -/
import Derived.Test.YtcmhfofeaghjpaaDoorHd
import Derived.Test.YtcmhfofeaghjpaaDoorPq
namespace Go.Proofs.YtcmhfofeaghjpaaDoor
open Go.RowKit Pm

/-- The call has made memory, and written to nothing that was there. -/
def Gr (w w' : World) : Prop := Below w.heap.size w w'
theorem Gr.refl (w : World) : Gr w w := Below.refl _ _
theorem Gr.trans {a b c : World} (h : Gr a b) (k : Gr b c) : Gr a c := Below.trans h (Below.mono k h.size)
theorem Gr.drew {a b : World} (h : Gr a b) (n : Nat) : Gr a (b.drewN n) := below_drewN h n

def sz (l : Bs) : Prop := l.length ≤ 4611686018427387904
theorem sz_of {l : Bs} {k : Nat} (h : l.length ≤ k) (hk : k ≤ 4611686018427387904) : sz l := Nat.le_trans h hk

theorem head_g (w : World) : Calls Tryd.prog 9 #[] w fun e w' => e = .returned (.bool true) ∧ Gr w w' := head_c w
theorem Parent_g (l : Bs) (w : World) (hl : sz l) : Calls Tryd.prog 12 #[.string (B l)] w fun e w' => e = .returned (.tuple #[.string (B ((parent l).getD [])), .bool (parent l).isSome]) ∧ Gr w w' := Parent_c l w hl
theorem Last_g (l : Bs) (w : World) (hl : sz l) : Calls Tryd.prog 17 #[.string (B l)] w fun e w' => e = .returned (.string (B (last l))) ∧ Gr w w' := Last_c l w hl
theorem Right_g (l : Bs) (w : World) (hl : sz l) : Calls Tryd.prog 14 #[.string (B l)] w fun e w' => e = .returned (.bool (split l).isSome) ∧ Gr w w' := Right_c l w hl
theorem Join_g (l q : Bs) (w : World) (hl : sz l) (hq : sz q) : Calls Tryd.prog 19 #[.string (B l), .string (B q)] w fun e w' => e = .returned (.tuple #[.string (B ((join l q).getD [])), .bool (join l q).isSome]) ∧ Gr w w' := Join_path_c l q w hl hq
theorem In_g (l q : Bs) (w : World) (hl : sz l) (hq : sz q) : Calls Tryd.prog 23 #[.string (B l), .string (B q)] w fun e w' => e = .returned (.bool (inB l q)) ∧ Gr w w' := In_c l q w hl hq

set_option maxRecDepth 100000 in
set_option maxHeartbeats 1000000 in
theorem PathBack_far (p q : Bs) (w : World) (_hp : p.length ≤ 9223372036854775807) (_hq : q.length ≤ 9223372036854775807) (h : 3000 < p.length ∨ 3000 < q.length) :
    Calls Tryd.prog 4 #[.string (B p), .string (B q)] w fun e w' => e = .returned (.bool true) ∧ Gr w w' := by
  by_cases h1 : 3000 < p.length
  · clear h
    go_enter Tryd.func4, Tryd.ntmps4
    go_wp2_with (first
      | (go_at_call 9; refine (head_g _).mono ?_; rintro e w1 ⟨rfl, g1⟩)
      | (go_at_call 12; refine (Parent_g _ _ (by assumption)).mono ?_; rintro e w1 ⟨rfl, g1⟩)
      | (go_at_call 17; refine (Last_g _ _ (by assumption)).mono ?_; rintro e w1 ⟨rfl, g1⟩)
      | (go_at_call 14; refine (Right_g _ _ (by assumption)).mono ?_; rintro e w1 ⟨rfl, g1⟩)
      | (go_at_call 19; refine (Join_g _ _ _ (by assumption) (by assumption)).mono ?_; rintro e w1 ⟨rfl, g1⟩)
      | (go_at_call 23; refine (In_g _ _ _ (by assumption) (by assumption)).mono ?_; rintro e w1 ⟨rfl, g1⟩))
    all_goals (go_ret; exact ⟨rfl, by repeat (first | assumption | exact Gr.refl _ | refine Gr.trans ?_ (by assumption))⟩)
  · have h2 : 3000 < q.length := h.resolve_left h1
    clear h
    go_enter Tryd.func4, Tryd.ntmps4
    go_wp2_with (first
      | (go_at_call 9; refine (head_g _).mono ?_; rintro e w1 ⟨rfl, g1⟩)
      | (go_at_call 12; refine (Parent_g _ _ (by assumption)).mono ?_; rintro e w1 ⟨rfl, g1⟩)
      | (go_at_call 17; refine (Last_g _ _ (by assumption)).mono ?_; rintro e w1 ⟨rfl, g1⟩)
      | (go_at_call 14; refine (Right_g _ _ (by assumption)).mono ?_; rintro e w1 ⟨rfl, g1⟩)
      | (go_at_call 19; refine (Join_g _ _ _ (by assumption) (by assumption)).mono ?_; rintro e w1 ⟨rfl, g1⟩)
      | (go_at_call 23; refine (In_g _ _ _ (by assumption) (by assumption)).mono ?_; rintro e w1 ⟨rfl, g1⟩))
    all_goals (go_ret; exact ⟨rfl, by repeat (first | assumption | exact Gr.refl _ | refine Gr.trans ?_ (by assumption))⟩)

set_option maxRecDepth 100000 in
set_option maxHeartbeats 1000000 in
theorem PathBack_near (p q : Bs) (w : World) (h1 : ¬ 3000 < p.length) (h2 : ¬ 3000 < q.length) :
    Calls Tryd.prog 4 #[.string (B p), .string (B q)] w fun e w' => e = .returned (.bool true) ∧ Gr w w' := by
  have sp : sz p := sz_of (Nat.le_of_not_lt h1) (by omega)
  have sq : sz q := sz_of (Nat.le_of_not_lt h2) (by omega)
  cases hpar : parent p with
  | some a =>
    obtain ⟨ps, e1, e2, l1, l2, _, _, _⟩ := parent_some hpar
    have sa : sz a := sz_of l1 (by omega)
    have sl : sz (last p) := sz_of l2 (by omega)
    clear l1 l2
    cases hj : join p q with
    | none =>
      go_enter Tryd.func4, Tryd.ntmps4
      go_wp2_with (first
        | (go_at_call 9; refine (head_g _).mono ?_; rintro e w1 ⟨rfl, g1⟩)
        | (go_at_call 12; refine (Parent_g _ _ (by assumption)).mono ?_; rintro e w1 ⟨rfl, g1⟩)
        | (go_at_call 17; refine (Last_g _ _ (by assumption)).mono ?_; rintro e w1 ⟨rfl, g1⟩)
        | (go_at_call 14; refine (Right_g _ _ (by assumption)).mono ?_; rintro e w1 ⟨rfl, g1⟩)
        | (go_at_call 19; refine (Join_g _ _ _ (by assumption) (by assumption)).mono ?_; rintro e w1 ⟨rfl, g1⟩)
        | (go_at_call 23; refine (In_g _ _ _ (by assumption) (by assumption)).mono ?_; rintro e w1 ⟨rfl, g1⟩))
      all_goals (go_ret; exact ⟨rfl, by repeat (first | assumption | exact Gr.refl _ | refine Gr.trans ?_ (by assumption))⟩)
    | some c =>
      obtain ⟨cs, k1, k2, k3, l1⟩ := join_some hj
      have sc : sz c := sz_of l1 (by omega)
      clear l1
      go_enter Tryd.func4, Tryd.ntmps4
      go_wp2_with (first
        | (go_at_call 9; refine (head_g _).mono ?_; rintro e w1 ⟨rfl, g1⟩)
        | (go_at_call 12; refine (Parent_g _ _ (by assumption)).mono ?_; rintro e w1 ⟨rfl, g1⟩)
        | (go_at_call 17; refine (Last_g _ _ (by assumption)).mono ?_; rintro e w1 ⟨rfl, g1⟩)
        | (go_at_call 14; refine (Right_g _ _ (by assumption)).mono ?_; rintro e w1 ⟨rfl, g1⟩)
        | (go_at_call 19; refine (Join_g _ _ _ (by assumption) (by assumption)).mono ?_; rintro e w1 ⟨rfl, g1⟩)
        | (go_at_call 23; refine (In_g _ _ _ (by assumption) (by assumption)).mono ?_; rintro e w1 ⟨rfl, g1⟩))
      all_goals (go_ret; exact ⟨rfl, by repeat (first | assumption | exact Gr.refl _ | refine Gr.trans ?_ (by assumption))⟩)
  | none =>
    obtain ⟨e1, e2⟩ := parent_none hpar
    cases hj : join p q with
    | none =>
      go_enter Tryd.func4, Tryd.ntmps4
      go_wp2_with (first
        | (go_at_call 9; refine (head_g _).mono ?_; rintro e w1 ⟨rfl, g1⟩)
        | (go_at_call 12; refine (Parent_g _ _ (by assumption)).mono ?_; rintro e w1 ⟨rfl, g1⟩)
        | (go_at_call 17; refine (Last_g _ _ (by assumption)).mono ?_; rintro e w1 ⟨rfl, g1⟩)
        | (go_at_call 14; refine (Right_g _ _ (by assumption)).mono ?_; rintro e w1 ⟨rfl, g1⟩)
        | (go_at_call 19; refine (Join_g _ _ _ (by assumption) (by assumption)).mono ?_; rintro e w1 ⟨rfl, g1⟩)
        | (go_at_call 23; refine (In_g _ _ _ (by assumption) (by assumption)).mono ?_; rintro e w1 ⟨rfl, g1⟩))
      all_goals (go_ret; exact ⟨rfl, by repeat (first | assumption | exact Gr.refl _ | refine Gr.trans ?_ (by assumption))⟩)
    | some c =>
      obtain ⟨cs, k1, k2, k3, l1⟩ := join_some hj
      have sc : sz c := sz_of l1 (by omega)
      clear l1
      go_enter Tryd.func4, Tryd.ntmps4
      go_wp2_with (first
        | (go_at_call 9; refine (head_g _).mono ?_; rintro e w1 ⟨rfl, g1⟩)
        | (go_at_call 12; refine (Parent_g _ _ (by assumption)).mono ?_; rintro e w1 ⟨rfl, g1⟩)
        | (go_at_call 17; refine (Last_g _ _ (by assumption)).mono ?_; rintro e w1 ⟨rfl, g1⟩)
        | (go_at_call 14; refine (Right_g _ _ (by assumption)).mono ?_; rintro e w1 ⟨rfl, g1⟩)
        | (go_at_call 19; refine (Join_g _ _ _ (by assumption) (by assumption)).mono ?_; rintro e w1 ⟨rfl, g1⟩)
        | (go_at_call 23; refine (In_g _ _ _ (by assumption) (by assumption)).mono ?_; rintro e w1 ⟨rfl, g1⟩))
      all_goals (go_ret; exact ⟨rfl, by repeat (first | assumption | exact Gr.refl _ | refine Gr.trans ?_ (by assumption))⟩)

theorem PathBack_c (p q : Bs) (w : World) (hp : p.length ≤ 9223372036854775807) (hq : q.length ≤ 9223372036854775807) :
    Calls Tryd.prog 4 #[.string (B p), .string (B q)] w fun e w' => e = .returned (.bool true) ∧ Gr w w' := by
  by_cases h : 3000 < p.length ∨ 3000 < q.length
  · exact PathBack_far p q w hp hq h
  · exact PathBack_near p q w (fun k => h (Or.inl k)) (fun k => h (Or.inr k))
end Go.Proofs.YtcmhfofeaghjpaaDoor
