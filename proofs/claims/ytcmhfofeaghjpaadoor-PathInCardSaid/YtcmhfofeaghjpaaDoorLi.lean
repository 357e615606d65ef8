/- Layer 1's laws, walked: PathIn. -/
import Derived.Test.YtcmhfofeaghjpaaDoorLb
namespace Go.Proofs.YtcmhfofeaghjpaaDoor
open Go.RowKit Pm

set_option maxRecDepth 100000 in
set_option maxHeartbeats 1000000 in
theorem PathIn_far (p q s : Bs) (w : World) (_hp : p.length ≤ 9223372036854775807) (_hq : q.length ≤ 9223372036854775807) (_hs : s.length ≤ 9223372036854775807) (h : 3000 < p.length ∨ 3000 < q.length ∨ 3000 < s.length) :
    Calls Tryd.prog 5 #[.string (B p), .string (B q), .string (B s)] w fun e w' => e = .returned (.bool true) ∧ Gr w w' := by
  by_cases h1 : 3000 < p.length
  · clear h
    go_enter Tryd.func5, Tryd.ntmps5
    go_wp2_with (first
      | (go_at_call 9; refine (head_g _).mono ?_; rintro e w1 ⟨rfl, g1⟩)
      | (go_at_call 12; refine (Parent_g _ _ (by assumption)).mono ?_; rintro e w1 ⟨rfl, g1⟩)
      | (go_at_call 17; refine (Last_g _ _ (by assumption)).mono ?_; rintro e w1 ⟨rfl, g1⟩)
      | (go_at_call 14; refine (Right_g _ _ (by assumption)).mono ?_; rintro e w1 ⟨rfl, g1⟩)
      | (go_at_call 19; refine (Join_g _ _ _ (by assumption) (by assumption)).mono ?_; rintro e w1 ⟨rfl, g1⟩)
      | (go_at_call 23; refine (In_g _ _ _ (by assumption) (by assumption)).mono ?_; rintro e w1 ⟨rfl, g1⟩))
    all_goals (go_ret; exact ⟨rfl, by repeat (first | assumption | exact Gr.refl _ | refine Gr.trans ?_ (by assumption))⟩)
  · by_cases h2 : 3000 < q.length
    · clear h
      go_enter Tryd.func5, Tryd.ntmps5
      go_wp2_with (first
        | (go_at_call 9; refine (head_g _).mono ?_; rintro e w1 ⟨rfl, g1⟩)
        | (go_at_call 12; refine (Parent_g _ _ (by assumption)).mono ?_; rintro e w1 ⟨rfl, g1⟩)
        | (go_at_call 17; refine (Last_g _ _ (by assumption)).mono ?_; rintro e w1 ⟨rfl, g1⟩)
        | (go_at_call 14; refine (Right_g _ _ (by assumption)).mono ?_; rintro e w1 ⟨rfl, g1⟩)
        | (go_at_call 19; refine (Join_g _ _ _ (by assumption) (by assumption)).mono ?_; rintro e w1 ⟨rfl, g1⟩)
        | (go_at_call 23; refine (In_g _ _ _ (by assumption) (by assumption)).mono ?_; rintro e w1 ⟨rfl, g1⟩))
      all_goals (go_ret; exact ⟨rfl, by repeat (first | assumption | exact Gr.refl _ | refine Gr.trans ?_ (by assumption))⟩)
    · have h3 : 3000 < s.length := (h.resolve_left h1).resolve_left h2
      clear h
      go_enter Tryd.func5, Tryd.ntmps5
      go_wp2_with (first
        | (go_at_call 9; refine (head_g _).mono ?_; rintro e w1 ⟨rfl, g1⟩)
        | (go_at_call 12; refine (Parent_g _ _ (by assumption)).mono ?_; rintro e w1 ⟨rfl, g1⟩)
        | (go_at_call 17; refine (Last_g _ _ (by assumption)).mono ?_; rintro e w1 ⟨rfl, g1⟩)
        | (go_at_call 14; refine (Right_g _ _ (by assumption)).mono ?_; rintro e w1 ⟨rfl, g1⟩)
        | (go_at_call 19; refine (Join_g _ _ _ (by assumption) (by assumption)).mono ?_; rintro e w1 ⟨rfl, g1⟩)
        | (go_at_call 23; refine (In_g _ _ _ (by assumption) (by assumption)).mono ?_; rintro e w1 ⟨rfl, g1⟩))
      all_goals (go_ret; exact ⟨rfl, by repeat (first | assumption | exact Gr.refl _ | refine Gr.trans ?_ (by assumption))⟩)

set_option maxRecDepth 100000 in
set_option maxHeartbeats 1000000 in
theorem PathIn_none (p q s : Bs) (w : World)
    (sp : sz p) (sq : sz q) (ss : sz s) (s47 : sz [47]) (h1 : p.length ≤ 3000) (h2 : q.length ≤ 3000) (h3 : s.length ≤ 3000) (n1 : ∀ x, inB p x = false) (n2 : split p = none) (n3 : parent p = none) :
    Calls Tryd.prog 5 #[.string (B p), .string (B q), .string (B s)] w fun e w' => e = .returned (.bool true) ∧ Gr w w' := by
  have a1 := n1 p
  have a2 := n1 [47]
  have a3 := n1 q
  clear n1
  go_enter Tryd.func5, Tryd.ntmps5
  go_wp2_with (first
    | (go_at_call 9; refine (head_g _).mono ?_; rintro e w1 ⟨rfl, g1⟩)
    | (go_at_call 12; refine (Parent_g _ _ (by assumption)).mono ?_; rintro e w1 ⟨rfl, g1⟩)
    | (go_at_call 17; refine (Last_g _ _ (by assumption)).mono ?_; rintro e w1 ⟨rfl, g1⟩)
    | (go_at_call 14; refine (Right_g _ _ (by assumption)).mono ?_; rintro e w1 ⟨rfl, g1⟩)
    | (go_at_call 19; refine (Join_g _ _ _ (by assumption) (by assumption)).mono ?_; rintro e w1 ⟨rfl, g1⟩)
    | (go_at_call 23; refine (In_g _ _ _ (by assumption) (by assumption)).mono ?_; rintro e w1 ⟨rfl, g1⟩))
  all_goals (go_ret; exact ⟨rfl, by repeat (first | assumption | exact Gr.refl _ | refine Gr.trans ?_ (by assumption))⟩)

set_option maxRecDepth 100000 in
set_option maxHeartbeats 1000000 in
theorem PathIn_up_f (p q s : Bs) (w : World)
    (sp : sz p) (sq : sz q) (ss : sz s) (s47 : sz [47]) (h1 : p.length ≤ 3000) (h2 : q.length ≤ 3000) (h3 : s.length ≤ 3000) (ps : List Bs) (n2 : split p = some ps) (n3 : inB p p = true) (n4 : inB p [47] = true) (a : Bs) (sa : sz a) (u1 : parent p = some a) (u2 : inB p a = true) (u3 : inB a p = false) (b1 : inB p q = false) :
    Calls Tryd.prog 5 #[.string (B p), .string (B q), .string (B s)] w fun e w' => e = .returned (.bool true) ∧ Gr w w' := by
  go_enter Tryd.func5, Tryd.ntmps5
  go_wp2_with (first
    | (go_at_call 9; refine (head_g _).mono ?_; rintro e w1 ⟨rfl, g1⟩)
    | (go_at_call 12; refine (Parent_g _ _ (by assumption)).mono ?_; rintro e w1 ⟨rfl, g1⟩)
    | (go_at_call 17; refine (Last_g _ _ (by assumption)).mono ?_; rintro e w1 ⟨rfl, g1⟩)
    | (go_at_call 14; refine (Right_g _ _ (by assumption)).mono ?_; rintro e w1 ⟨rfl, g1⟩)
    | (go_at_call 19; refine (Join_g _ _ _ (by assumption) (by assumption)).mono ?_; rintro e w1 ⟨rfl, g1⟩)
    | (go_at_call 23; refine (In_g _ _ _ (by assumption) (by assumption)).mono ?_; rintro e w1 ⟨rfl, g1⟩))
  all_goals (go_ret; exact ⟨rfl, by repeat (first | assumption | exact Gr.refl _ | refine Gr.trans ?_ (by assumption))⟩)

set_option maxRecDepth 100000 in
set_option maxHeartbeats 1000000 in
theorem PathIn_up_same_t (p s : Bs) (w : World)
    (sp : sz p) (ss : sz s) (s47 : sz [47]) (h1 : p.length ≤ 3000) (h3 : s.length ≤ 3000) (ps : List Bs) (n2 : split p = some ps) (n3 : inB p p = true) (n4 : inB p [47] = true) (a : Bs) (sa : sz a) (u1 : parent p = some a) (u2 : inB p a = true) (u3 : inB a p = false) (b2 : inB p s = true) :
    Calls Tryd.prog 5 #[.string (B p), .string (B p), .string (B s)] w fun e w' => e = .returned (.bool true) ∧ Gr w w' := by
  go_enter Tryd.func5, Tryd.ntmps5
  go_wp2_with (first
    | (go_at_call 9; refine (head_g _).mono ?_; rintro e w1 ⟨rfl, g1⟩)
    | (go_at_call 12; refine (Parent_g _ _ (by assumption)).mono ?_; rintro e w1 ⟨rfl, g1⟩)
    | (go_at_call 17; refine (Last_g _ _ (by assumption)).mono ?_; rintro e w1 ⟨rfl, g1⟩)
    | (go_at_call 14; refine (Right_g _ _ (by assumption)).mono ?_; rintro e w1 ⟨rfl, g1⟩)
    | (go_at_call 19; refine (Join_g _ _ _ (by assumption) (by assumption)).mono ?_; rintro e w1 ⟨rfl, g1⟩)
    | (go_at_call 23; refine (In_g _ _ _ (by assumption) (by assumption)).mono ?_; rintro e w1 ⟨rfl, g1⟩))
  all_goals (go_ret; exact ⟨rfl, by repeat (first | assumption | exact Gr.refl _ | refine Gr.trans ?_ (by assumption))⟩)

set_option maxRecDepth 100000 in
set_option maxHeartbeats 1000000 in
theorem PathIn_up_tf (p q s : Bs) (w : World)
    (sp : sz p) (sq : sz q) (ss : sz s) (s47 : sz [47]) (h1 : p.length ≤ 3000) (h2 : q.length ≤ 3000) (h3 : s.length ≤ 3000) (ps : List Bs) (n2 : split p = some ps) (n3 : inB p p = true) (n4 : inB p [47] = true) (a : Bs) (sa : sz a) (u1 : parent p = some a) (u2 : inB p a = true) (u3 : inB a p = false) (b1 : inB p q = true) (b2 : inB q s = true) (b3 : inB p s = true) (b4 : inB q p = false) :
    Calls Tryd.prog 5 #[.string (B p), .string (B q), .string (B s)] w fun e w' => e = .returned (.bool true) ∧ Gr w w' := by
  go_enter Tryd.func5, Tryd.ntmps5
  go_wp2_with (first
    | (go_at_call 9; refine (head_g _).mono ?_; rintro e w1 ⟨rfl, g1⟩)
    | (go_at_call 12; refine (Parent_g _ _ (by assumption)).mono ?_; rintro e w1 ⟨rfl, g1⟩)
    | (go_at_call 17; refine (Last_g _ _ (by assumption)).mono ?_; rintro e w1 ⟨rfl, g1⟩)
    | (go_at_call 14; refine (Right_g _ _ (by assumption)).mono ?_; rintro e w1 ⟨rfl, g1⟩)
    | (go_at_call 19; refine (Join_g _ _ _ (by assumption) (by assumption)).mono ?_; rintro e w1 ⟨rfl, g1⟩)
    | (go_at_call 23; refine (In_g _ _ _ (by assumption) (by assumption)).mono ?_; rintro e w1 ⟨rfl, g1⟩))
  all_goals (go_ret; exact ⟨rfl, by repeat (first | assumption | exact Gr.refl _ | refine Gr.trans ?_ (by assumption))⟩)

set_option maxRecDepth 100000 in
set_option maxHeartbeats 1000000 in
theorem PathIn_up_same_f (p s : Bs) (w : World)
    (sp : sz p) (ss : sz s) (s47 : sz [47]) (h1 : p.length ≤ 3000) (h3 : s.length ≤ 3000) (ps : List Bs) (n2 : split p = some ps) (n3 : inB p p = true) (n4 : inB p [47] = true) (a : Bs) (sa : sz a) (u1 : parent p = some a) (u2 : inB p a = true) (u3 : inB a p = false) (b2 : inB p s = false) :
    Calls Tryd.prog 5 #[.string (B p), .string (B p), .string (B s)] w fun e w' => e = .returned (.bool true) ∧ Gr w w' := by
  go_enter Tryd.func5, Tryd.ntmps5
  go_wp2_with (first
    | (go_at_call 9; refine (head_g _).mono ?_; rintro e w1 ⟨rfl, g1⟩)
    | (go_at_call 12; refine (Parent_g _ _ (by assumption)).mono ?_; rintro e w1 ⟨rfl, g1⟩)
    | (go_at_call 17; refine (Last_g _ _ (by assumption)).mono ?_; rintro e w1 ⟨rfl, g1⟩)
    | (go_at_call 14; refine (Right_g _ _ (by assumption)).mono ?_; rintro e w1 ⟨rfl, g1⟩)
    | (go_at_call 19; refine (Join_g _ _ _ (by assumption) (by assumption)).mono ?_; rintro e w1 ⟨rfl, g1⟩)
    | (go_at_call 23; refine (In_g _ _ _ (by assumption) (by assumption)).mono ?_; rintro e w1 ⟨rfl, g1⟩))
  all_goals (go_ret; exact ⟨rfl, by repeat (first | assumption | exact Gr.refl _ | refine Gr.trans ?_ (by assumption))⟩)

set_option maxRecDepth 100000 in
set_option maxHeartbeats 1000000 in
theorem PathIn_up_ff (p q s : Bs) (w : World)
    (sp : sz p) (sq : sz q) (ss : sz s) (s47 : sz [47]) (h1 : p.length ≤ 3000) (h2 : q.length ≤ 3000) (h3 : s.length ≤ 3000) (ps : List Bs) (n2 : split p = some ps) (n3 : inB p p = true) (n4 : inB p [47] = true) (a : Bs) (sa : sz a) (u1 : parent p = some a) (u2 : inB p a = true) (u3 : inB a p = false) (b1 : inB p q = true) (b2 : inB q s = false) (b4 : inB q p = false) :
    Calls Tryd.prog 5 #[.string (B p), .string (B q), .string (B s)] w fun e w' => e = .returned (.bool true) ∧ Gr w w' := by
  go_enter Tryd.func5, Tryd.ntmps5
  go_wp2_with (first
    | (go_at_call 9; refine (head_g _).mono ?_; rintro e w1 ⟨rfl, g1⟩)
    | (go_at_call 12; refine (Parent_g _ _ (by assumption)).mono ?_; rintro e w1 ⟨rfl, g1⟩)
    | (go_at_call 17; refine (Last_g _ _ (by assumption)).mono ?_; rintro e w1 ⟨rfl, g1⟩)
    | (go_at_call 14; refine (Right_g _ _ (by assumption)).mono ?_; rintro e w1 ⟨rfl, g1⟩)
    | (go_at_call 19; refine (Join_g _ _ _ (by assumption) (by assumption)).mono ?_; rintro e w1 ⟨rfl, g1⟩)
    | (go_at_call 23; refine (In_g _ _ _ (by assumption) (by assumption)).mono ?_; rintro e w1 ⟨rfl, g1⟩))
  all_goals (go_ret; exact ⟨rfl, by repeat (first | assumption | exact Gr.refl _ | refine Gr.trans ?_ (by assumption))⟩)

set_option maxRecDepth 100000 in
set_option maxHeartbeats 1000000 in
theorem PathIn_root_f (p q s : Bs) (w : World)
    (sp : sz p) (sq : sz q) (ss : sz s) (s47 : sz [47]) (h1 : p.length ≤ 3000) (h2 : q.length ≤ 3000) (h3 : s.length ≤ 3000) (ps : List Bs) (n2 : split p = some ps) (n3 : inB p p = true) (n4 : inB p [47] = true) (u1 : parent p = none) (b1 : inB p q = false) :
    Calls Tryd.prog 5 #[.string (B p), .string (B q), .string (B s)] w fun e w' => e = .returned (.bool true) ∧ Gr w w' := by
  go_enter Tryd.func5, Tryd.ntmps5
  go_wp2_with (first
    | (go_at_call 9; refine (head_g _).mono ?_; rintro e w1 ⟨rfl, g1⟩)
    | (go_at_call 12; refine (Parent_g _ _ (by assumption)).mono ?_; rintro e w1 ⟨rfl, g1⟩)
    | (go_at_call 17; refine (Last_g _ _ (by assumption)).mono ?_; rintro e w1 ⟨rfl, g1⟩)
    | (go_at_call 14; refine (Right_g _ _ (by assumption)).mono ?_; rintro e w1 ⟨rfl, g1⟩)
    | (go_at_call 19; refine (Join_g _ _ _ (by assumption) (by assumption)).mono ?_; rintro e w1 ⟨rfl, g1⟩)
    | (go_at_call 23; refine (In_g _ _ _ (by assumption) (by assumption)).mono ?_; rintro e w1 ⟨rfl, g1⟩))
  all_goals (go_ret; exact ⟨rfl, by repeat (first | assumption | exact Gr.refl _ | refine Gr.trans ?_ (by assumption))⟩)

set_option maxRecDepth 100000 in
set_option maxHeartbeats 1000000 in
theorem PathIn_root_same_t (p s : Bs) (w : World)
    (sp : sz p) (ss : sz s) (s47 : sz [47]) (h1 : p.length ≤ 3000) (h3 : s.length ≤ 3000) (ps : List Bs) (n2 : split p = some ps) (n3 : inB p p = true) (n4 : inB p [47] = true) (u1 : parent p = none) (b2 : inB p s = true) :
    Calls Tryd.prog 5 #[.string (B p), .string (B p), .string (B s)] w fun e w' => e = .returned (.bool true) ∧ Gr w w' := by
  go_enter Tryd.func5, Tryd.ntmps5
  go_wp2_with (first
    | (go_at_call 9; refine (head_g _).mono ?_; rintro e w1 ⟨rfl, g1⟩)
    | (go_at_call 12; refine (Parent_g _ _ (by assumption)).mono ?_; rintro e w1 ⟨rfl, g1⟩)
    | (go_at_call 17; refine (Last_g _ _ (by assumption)).mono ?_; rintro e w1 ⟨rfl, g1⟩)
    | (go_at_call 14; refine (Right_g _ _ (by assumption)).mono ?_; rintro e w1 ⟨rfl, g1⟩)
    | (go_at_call 19; refine (Join_g _ _ _ (by assumption) (by assumption)).mono ?_; rintro e w1 ⟨rfl, g1⟩)
    | (go_at_call 23; refine (In_g _ _ _ (by assumption) (by assumption)).mono ?_; rintro e w1 ⟨rfl, g1⟩))
  all_goals (go_ret; exact ⟨rfl, by repeat (first | assumption | exact Gr.refl _ | refine Gr.trans ?_ (by assumption))⟩)

set_option maxRecDepth 100000 in
set_option maxHeartbeats 1000000 in
theorem PathIn_root_tf (p q s : Bs) (w : World)
    (sp : sz p) (sq : sz q) (ss : sz s) (s47 : sz [47]) (h1 : p.length ≤ 3000) (h2 : q.length ≤ 3000) (h3 : s.length ≤ 3000) (ps : List Bs) (n2 : split p = some ps) (n3 : inB p p = true) (n4 : inB p [47] = true) (u1 : parent p = none) (b1 : inB p q = true) (b2 : inB q s = true) (b3 : inB p s = true) (b4 : inB q p = false) :
    Calls Tryd.prog 5 #[.string (B p), .string (B q), .string (B s)] w fun e w' => e = .returned (.bool true) ∧ Gr w w' := by
  go_enter Tryd.func5, Tryd.ntmps5
  go_wp2_with (first
    | (go_at_call 9; refine (head_g _).mono ?_; rintro e w1 ⟨rfl, g1⟩)
    | (go_at_call 12; refine (Parent_g _ _ (by assumption)).mono ?_; rintro e w1 ⟨rfl, g1⟩)
    | (go_at_call 17; refine (Last_g _ _ (by assumption)).mono ?_; rintro e w1 ⟨rfl, g1⟩)
    | (go_at_call 14; refine (Right_g _ _ (by assumption)).mono ?_; rintro e w1 ⟨rfl, g1⟩)
    | (go_at_call 19; refine (Join_g _ _ _ (by assumption) (by assumption)).mono ?_; rintro e w1 ⟨rfl, g1⟩)
    | (go_at_call 23; refine (In_g _ _ _ (by assumption) (by assumption)).mono ?_; rintro e w1 ⟨rfl, g1⟩))
  all_goals (go_ret; exact ⟨rfl, by repeat (first | assumption | exact Gr.refl _ | refine Gr.trans ?_ (by assumption))⟩)

set_option maxRecDepth 100000 in
set_option maxHeartbeats 1000000 in
theorem PathIn_root_same_f (p s : Bs) (w : World)
    (sp : sz p) (ss : sz s) (s47 : sz [47]) (h1 : p.length ≤ 3000) (h3 : s.length ≤ 3000) (ps : List Bs) (n2 : split p = some ps) (n3 : inB p p = true) (n4 : inB p [47] = true) (u1 : parent p = none) (b2 : inB p s = false) :
    Calls Tryd.prog 5 #[.string (B p), .string (B p), .string (B s)] w fun e w' => e = .returned (.bool true) ∧ Gr w w' := by
  go_enter Tryd.func5, Tryd.ntmps5
  go_wp2_with (first
    | (go_at_call 9; refine (head_g _).mono ?_; rintro e w1 ⟨rfl, g1⟩)
    | (go_at_call 12; refine (Parent_g _ _ (by assumption)).mono ?_; rintro e w1 ⟨rfl, g1⟩)
    | (go_at_call 17; refine (Last_g _ _ (by assumption)).mono ?_; rintro e w1 ⟨rfl, g1⟩)
    | (go_at_call 14; refine (Right_g _ _ (by assumption)).mono ?_; rintro e w1 ⟨rfl, g1⟩)
    | (go_at_call 19; refine (Join_g _ _ _ (by assumption) (by assumption)).mono ?_; rintro e w1 ⟨rfl, g1⟩)
    | (go_at_call 23; refine (In_g _ _ _ (by assumption) (by assumption)).mono ?_; rintro e w1 ⟨rfl, g1⟩))
  all_goals (go_ret; exact ⟨rfl, by repeat (first | assumption | exact Gr.refl _ | refine Gr.trans ?_ (by assumption))⟩)

set_option maxRecDepth 100000 in
set_option maxHeartbeats 1000000 in
theorem PathIn_root_ff (p q s : Bs) (w : World)
    (sp : sz p) (sq : sz q) (ss : sz s) (s47 : sz [47]) (h1 : p.length ≤ 3000) (h2 : q.length ≤ 3000) (h3 : s.length ≤ 3000) (ps : List Bs) (n2 : split p = some ps) (n3 : inB p p = true) (n4 : inB p [47] = true) (u1 : parent p = none) (b1 : inB p q = true) (b2 : inB q s = false) (b4 : inB q p = false) :
    Calls Tryd.prog 5 #[.string (B p), .string (B q), .string (B s)] w fun e w' => e = .returned (.bool true) ∧ Gr w w' := by
  go_enter Tryd.func5, Tryd.ntmps5
  go_wp2_with (first
    | (go_at_call 9; refine (head_g _).mono ?_; rintro e w1 ⟨rfl, g1⟩)
    | (go_at_call 12; refine (Parent_g _ _ (by assumption)).mono ?_; rintro e w1 ⟨rfl, g1⟩)
    | (go_at_call 17; refine (Last_g _ _ (by assumption)).mono ?_; rintro e w1 ⟨rfl, g1⟩)
    | (go_at_call 14; refine (Right_g _ _ (by assumption)).mono ?_; rintro e w1 ⟨rfl, g1⟩)
    | (go_at_call 19; refine (Join_g _ _ _ (by assumption) (by assumption)).mono ?_; rintro e w1 ⟨rfl, g1⟩)
    | (go_at_call 23; refine (In_g _ _ _ (by assumption) (by assumption)).mono ?_; rintro e w1 ⟨rfl, g1⟩))
  all_goals (go_ret; exact ⟨rfl, by repeat (first | assumption | exact Gr.refl _ | refine Gr.trans ?_ (by assumption))⟩)

theorem PathIn_c (p q s : Bs) (w : World) (hp : p.length ≤ 9223372036854775807) (hq : q.length ≤ 9223372036854775807) (hs : s.length ≤ 9223372036854775807) :
    Calls Tryd.prog 5 #[.string (B p), .string (B q), .string (B s)] w fun e w' => e = .returned (.bool true) ∧ Gr w w' := by
  by_cases h : 3000 < p.length ∨ 3000 < q.length ∨ 3000 < s.length
  · exact PathIn_far p q s w hp hq hs h
  have h1 : p.length ≤ 3000 := Nat.le_of_not_lt fun k => h (Or.inl k)
  have h2 : q.length ≤ 3000 := Nat.le_of_not_lt fun k => h (Or.inr (Or.inl k))
  have h3 : s.length ≤ 3000 := Nat.le_of_not_lt fun k => h (Or.inr (Or.inr k))
  have sp : sz p := sz_of h1 (by omega)
  have sq : sz q := sz_of h2 (by omega)
  have ss : sz s := sz_of h3 (by omega)
  have s47 : sz [47] := sz_of (Nat.le_refl _) (by simp)
  cases n2 : split p with
  | none => exact PathIn_none p q s w sp sq ss s47 h1 h2 h3 (in_none n2) n2 (by unfold parent; rw [n2])
  | some ps =>
    have n3 := in_refl n2
    have n4 := in_root n2
    cases u1 : parent p with
    | none =>
      cases b1 : inB p q with
      | false => exact PathIn_root_f p q s w sp sq ss s47 h1 h2 h3 ps n2 n3 n4 u1 b1
      | true =>
        cases b4 : inB q p with
        | true =>
          obtain rfl := in_anti b1 b4
          cases b2 : inB p s with
          | true => exact PathIn_root_same_t p s w sp ss s47 h1 h3 ps n2 n3 n4 u1 b2
          | false => exact PathIn_root_same_f p s w sp ss s47 h1 h3 ps n2 n3 n4 u1 b2
        | false =>
          cases b2 : inB q s with
          | true => exact PathIn_root_tf p q s w sp sq ss s47 h1 h2 h3 ps n2 n3 n4 u1 b1 b2 (in_trans b1 b2) b4
          | false => exact PathIn_root_ff p q s w sp sq ss s47 h1 h2 h3 ps n2 n3 n4 u1 b1 b2 b4
    | some a =>
      obtain ⟨_, _, _, l1, _, _, u2, u3⟩ := parent_some u1
      have sa : sz a := sz_of l1 (by omega)
      cases b1 : inB p q with
      | false => exact PathIn_up_f p q s w sp sq ss s47 h1 h2 h3 ps n2 n3 n4 a sa u1 u2 u3 b1
      | true =>
        cases b4 : inB q p with
        | true =>
          obtain rfl := in_anti b1 b4
          cases b2 : inB p s with
          | true => exact PathIn_up_same_t p s w sp ss s47 h1 h3 ps n2 n3 n4 a sa u1 u2 u3 b2
          | false => exact PathIn_up_same_f p s w sp ss s47 h1 h3 ps n2 n3 n4 a sa u1 u2 u3 b2
        | false =>
          cases b2 : inB q s with
          | true => exact PathIn_up_tf p q s w sp sq ss s47 h1 h2 h3 ps n2 n3 n4 a sa u1 u2 u3 b1 b2 (in_trans b1 b2) b4
          | false => exact PathIn_up_ff p q s w sp sq ss s47 h1 h2 h3 ps n2 n3 n4 a sa u1 u2 u3 b1 b2 b4
end Go.Proofs.YtcmhfofeaghjpaaDoor
