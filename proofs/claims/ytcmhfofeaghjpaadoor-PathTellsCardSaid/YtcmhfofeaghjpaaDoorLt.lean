/- Layer 1's laws, walked: PathTells. -/
import Derived.Test.YtcmhfofeaghjpaaDoorRd
namespace Go.Proofs.YtcmhfofeaghjpaaDoor
open Go.RowKit Pm

theorem Own.grown {b0 : Nat} {w w' : World} {v : Value} {ps : List Bs} (h : Own b0 w v ps) (g : Gr w w') : Own b0 w' v ps := by
  refine ⟨⟨h.1.1, ?_⟩, h.2⟩
  rcases h.1.2 with hn | ⟨k, cap, cur, hv, hb, hg, hrest⟩
  · exact .inl hn
  · refine .inr ⟨k, cap, cur, hv, hb, ?_, hrest⟩
    rw [Below.block g k (Array.getElem?_eq_some_iff.1 hg).1]; exact hg

theorem rSame_none (w : World) : Calls Tryd.prog 16 #[.slice none 0 0, .slice none 0 0] w fun e w' => e = .returned (.bool true) ∧ w = w' := by
  go_enter Tryd.func16, Tryd.ntmps16
  go_wp2
  refine wp_loop_rounds 1 ?_; rw [rounds_succ]
  go_wp2
  go_ret
  exact ⟨rfl, rfl⟩

theorem rSame_own (b1 b2 : Nat) (v1 v2 : Value) (ps : List Bs) (w : World) (h1 : Own b1 w v1 ps) (h2 : Own b2 w v2 ps) :
    Calls Tryd.prog 16 #[v1, v2] w fun e w' => e = .returned (.bool true) ∧ Gr w w' := by
  cases ps with
  | nil =>
    obtain rfl := h1.2 rfl
    obtain rfl := h2.2 rfl
    exact (rSame_none w).mono fun e w' ⟨a, b⟩ => ⟨a, b ▸ Gr.refl _⟩
  | cons p r =>
    obtain ⟨g1, c1, rfl, _, l1⟩ := h1.lies
    obtain ⟨g2, c2, rfl, _, l2⟩ := h2.lies
    exact (rSame_c g1 c1 g2 c2 (p :: r) (p :: r) w l1 l2 rfl).mono fun e w' ⟨a, b⟩ => ⟨a, b.below _⟩

theorem rSplit_g (l : Bs) (w : World) (hl : sz l) : Calls Tryd.prog 11 #[.string (B l)] w fun e w' => (∃ v, e = .returned (.tuple #[v, .bool (split l).isSome]) ∧ Own w.heap.size w' v ((split l).getD [])) ∧ Gr w w' :=
  (rSplit_c l w hl).mono fun _ _ ⟨v, h1, h2, h3⟩ => ⟨⟨v, h1, h2⟩, h3⟩
theorem Numbered_o (p : Bs) (n : Int) (w : World) (ht : Tab w) (hp : sz p) (h0 : -9223372036854775808 ≤ n) (h1 : n ≤ 9223372036854775807) :
    Calls Tryd.prog 21 #[.string (B p), .int .i64 n] w fun e w' => e = .returned (.tuple #[.string (B ((numbered p n).getD [])), .bool (numbered p n).isSome]) ∧ Gr w w' :=
  Numbered_c p n w hp h0 h1 (Or.inr ht.is)

set_option maxRecDepth 100000 in
set_option maxHeartbeats 2000000 in
theorem PathTells_far (p q : Bs) (n : Int) (w : World) (_hp : p.length ≤ 9223372036854775807) (_hq : q.length ≤ 9223372036854775807) (h : 3000 < p.length ∨ 3000 < q.length) :
    Calls Tryd.prog 3 #[.string (B p), .string (B q), .int .i64 n] w fun e w' => e = .returned (.bool true) ∧ Gr w w' := by
  by_cases h1 : 3000 < p.length
  · clear h
    go_enter Tryd.func3, Tryd.ntmps3
    go_wp2_with (go_at_call 9; refine (head_g _).mono ?_; rintro e w1 ⟨rfl, g1⟩)
    go_ret
    exact ⟨rfl, by assumption⟩
  · have h2 : 3000 < q.length := h.resolve_left h1
    clear h
    go_enter Tryd.func3, Tryd.ntmps3
    go_wp2_with (go_at_call 9; refine (head_g _).mono ?_; rintro e w1 ⟨rfl, g1⟩)
    go_ret
    exact ⟨rfl, by assumption⟩

set_option maxRecDepth 100000 in
set_option maxHeartbeats 4000000 in
theorem PathTells_near (p q : Bs) (n : Int) (w : World) (h1 : p.length ≤ 3000) (h2 : q.length ≤ 3000) (n0 : -9223372036854775808 ≤ n) (n1 : n ≤ 9223372036854775807) (ht : Tab w) :
    Calls Tryd.prog 3 #[.string (B p), .string (B q), .int .i64 n] w fun e w' => e = .returned (.bool true) ∧ Gr w w' := by
  have sp : sz p := sz_of h1 (by omega)
  have sq : sz q := sz_of h2 (by omega)
  have gw := Gr.refl w
  go_enter Tryd.func3, Tryd.ntmps3
  go_wp2_with fail
  refine (head_g _).mono ?_; rintro e w1 ⟨rfl, g⟩
  have gw1 := gw.trans g; clear g
  go_wp2_with fail
  refine (Split_g _ _ sp).mono ?_; rintro e w2 ⟨⟨v, rfl, hown⟩, g⟩
  have gw2 := gw1.trans g; clear g
  go_wp2_with fail
  refine (rSplit_g _ _ sp).mono ?_; rintro e w3 ⟨⟨v', rfl, hown'⟩, g⟩
  have gw3 := gw2.trans g
  have hown := hown.grown g; clear g
  go_wp2_with fail
  refine (Parent_g _ _ sp).mono ?_; rintro e w4 ⟨rfl, g⟩
  have gw4 := gw3.trans g
  have hown := hown.grown g
  have hown' := hown'.grown g; clear g
  go_wp2_with fail
  refine (rParent_g _ _ sp).mono ?_; rintro e w5 ⟨rfl, g⟩
  have gw5 := gw4.trans g
  have hown := hown.grown g
  have hown' := hown'.grown g; clear g
  go_wp2_with fail
  refine (Right_g _ _ sp).mono ?_; rintro e w6 ⟨rfl, g⟩
  have gw6 := gw5.trans g
  have hown := hown.grown g
  have hown' := hown'.grown g; clear g
  go_wp2_with fail
  refine (rRight_g _ _ sp).mono ?_; rintro e w7 ⟨rfl, g⟩
  have gw7 := gw6.trans g
  have hown := hown.grown g
  have hown' := hown'.grown g; clear g
  go_wp2_with fail
  refine (rSame_own _ _ _ _ _ _ hown hown').mono ?_; rintro e w8 ⟨rfl, g⟩
  have gw8 := gw7.trans g; clear g hown hown'
  go_wp2_with fail
  refine (Last_g _ _ sp).mono ?_; rintro e w9 ⟨rfl, g⟩
  have gw9 := gw8.trans g; clear g
  go_wp2_with fail
  refine (rLast_g _ _ sp).mono ?_; rintro e w10 ⟨rfl, g⟩
  have gw10 := gw9.trans g; clear g
  go_wp2_with fail
  refine (Join_g _ _ _ sp sq).mono ?_; rintro e w11 ⟨rfl, g⟩
  have gw11 := gw10.trans g; clear g
  go_wp2_with fail
  refine (rJoin_g _ _ _ sp sq).mono ?_; rintro e w12 ⟨rfl, g⟩
  have gw12 := gw11.trans g; clear g
  go_wp2_with fail
  refine (Numbered_o _ _ _ (ht.grown gw12) sq n0 n1).mono ?_; rintro e w13 ⟨rfl, g⟩
  have gw13 := gw12.trans g; clear g
  go_wp2_with fail
  refine (rNumbered_g _ _ _ (by omega)).mono ?_; rintro e w14 ⟨rfl, g⟩
  have gw14 := gw13.trans g; clear g
  go_wp2_with fail
  refine (In_g _ _ _ sp sq).mono ?_; rintro e w15 ⟨rfl, g⟩
  have gw15 := gw14.trans g; clear g
  go_wp2_with fail
  refine (rIn_g _ _ _ sp sq).mono ?_; rintro e w16 ⟨rfl, g⟩
  have gw16 := gw15.trans g; clear g
  go_wp2
  go_ret
  exact ⟨rfl, gw16⟩

theorem PathTells_c (p q : Bs) (n : Int) (w : World) (hp : p.length ≤ 9223372036854775807) (hq : q.length ≤ 9223372036854775807) (hn : -9223372036854775808 ≤ n ∧ n ≤ 9223372036854775807) (ht : Tab w) :
    Calls Tryd.prog 3 #[.string (B p), .string (B q), .int .i64 n] w fun e w' => e = .returned (.bool true) ∧ Gr w w' := by
  by_cases h : 3000 < p.length ∨ 3000 < q.length
  · exact PathTells_far p q n w hp hq h
  · exact PathTells_near p q n w (Nat.le_of_not_lt fun k => h (Or.inl k)) (Nat.le_of_not_lt fun k => h (Or.inr k)) hn.1 hn.2 ht
end Go.Proofs.YtcmhfofeaghjpaaDoor
