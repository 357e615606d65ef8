/- The functions of package path: contracts over plain lists. -/
import Derived.Test.YtcjpgenlhphapaaBu
import Derived.Test.YtcjpgenlhphapaaPn
import Derived.Test.YtcjpgenlhphapaaShelf
import Derived.Lib.AppendIntMem
namespace Go.Proofs.Ytcjpgenlhphapaa
set_option maxRecDepth 20000
open Go.RowKit Pm

/-- A slice of strings whose cells lie at a block's head. -/
structure Lies (w : World) (g cap : Nat) (ps : List Bs) : Prop where
  lt : g < w.heap.size
  room : ps.length ≤ cap
  most : cap ≤ maxLen
  cell : ∀ j (h : j < ps.length), w.cell? ⟨g, j, none⟩ = some (strV ps[j])

theorem Own.lies {b0 : Nat} {w : World} {v : Value} {p : Bs} {r : List Bs} (h : Own b0 w v (p :: r)) :
    ∃ g cap, v = .slice (some ⟨g, 0, none⟩) (r.length + 1) cap ∧ b0 ≤ g ∧ Lies w g cap (p :: r) := by
  obtain ⟨ho, _⟩ := h
  rcases ho.2 with ⟨_, h0⟩ | ⟨g, cap, cur, rfl, hb, hg, hc, hm, hs, ht⟩
  · simp at h0
  · refine ⟨g, cap, rfl, hb, (Array.getElem?_eq_some_iff.1 hg).1, hc, hm, fun j hj => ?_⟩
    have := ho.cellAt j (by simpa using hj)
    rw [this, List.getElem?_map, List.getElem?_eq_getElem hj]
    rfl

theorem Own.shape {b0 : Nat} {w : World} {v : Value} {ps : List Bs} (h : Own b0 w v ps) : ∃ ao cap, v = .slice ao ps.length cap := by
  cases ps with
  | nil => exact ⟨none, 0, h.2 rfl⟩
  | cons p r => obtain ⟨g, cap, rfl, _⟩ := h.lies; exact ⟨_, _, rfl⟩

theorem Lies.below {w w' : World} {g cap : Nat} {ps : List Bs} (h : Lies w g cap ps) {b0 : Nat} (hb : Below b0 w w') (hg : g < b0) : Lies w' g cap ps :=
  ⟨Nat.lt_of_lt_of_le h.lt hb.size, h.room, h.most, fun j hj => by rw [hb.cell (p := ⟨g, j, none⟩) hg]; exact h.cell j hj⟩

theorem Lies.take {w : World} {g cap : Nat} {ps : List Bs} (h : Lies w g cap ps) (k : Nat) : Lies w g cap (ps.take k) :=
  ⟨h.lt, by have := h.room; rw [List.length_take]; omega, h.most, fun j hj => by
    rw [List.getElem_take]; exact h.cell j (by rw [List.length_take] at hj; omega)⟩

theorem Join_c (g cap : Nat) (ps : List Bs) (w : World) (h : Lies w g cap ps) (hn : ps.length ≤ 1000) (hl : lens ps ≤ 500000000) :
    Calls Try.prog 75 #[.slice (some ⟨g, 0, none⟩) ps.length cap, .string ⟨#[47]⟩] w fun e w' => e = .returned (.string (B (jn ps))) ∧ Below w.heap.size w w' := by
  match ps, h, hn, hl with
  | [], _, _, _ => exact (Join_none _ cap w).mono fun e w' ⟨he, hw⟩ => ⟨he, hw ▸ Below.refl _ _⟩
  | [p], h, _, _ =>
    refine (Join_one g 0 cap p w (h.cell 0 (by simp))).mono fun e w' ⟨he, hw⟩ => ⟨?_, hw ▸ Below.refl _ _⟩
    rw [he]; simp [jn, flat]
  | p :: q :: r, h, hn, hl =>
    exact Join_many g 0 cap p (q :: r) w (fun j hj => by simpa using h.cell j hj) h.lt (by simp) (by simp at hn ⊢; omega) (by have := h.room; simpa using this) hl

set_option maxHeartbeats 400000 in
theorem whole_c (g cap : Nat) (ps : List Bs) (w : World) (h : Lies w g cap ps) (hn : ps.length ≤ 1000) (hl : lens ps ≤ 500000000) :
    Calls Try.prog 71 #[.slice (some ⟨g, 0, none⟩) ps.length cap] w fun e w' => e = .returned (.string (B (joinP ps))) ∧ Below w.heap.size w w' := by
  have hjl : (jn ps).length ≤ 600000000 := by
    cases ps with
    | nil => simp [jn]
    | cons p r => have := flat_len r; simp [jn, lens] at hl hn this ⊢; omega
  go_enter Try.func71, Try.ntmps71
  go_wp2_with fail
  refine (Join_c g cap ps w h hn hl).mono ?_
  rintro e w1 ⟨rfl, hb⟩
  go_wp2
  go_ret
  refine ⟨?_, hb⟩
  rfl

theorem whole_own (b0 : Nat) (v : Value) (p : Bs) (r : List Bs) (w : World) (h : Own b0 w v (p :: r)) (hn : (p :: r).length ≤ 1000) (hl : lens (p :: r) ≤ 500000000) :
    Calls Try.prog 71 #[v] w fun e w' => e = .returned (.string (B (joinP (p :: r)))) ∧ Below w.heap.size w w' := by
  obtain ⟨g, cap, rfl, _, hlies⟩ := h.lies
  exact whole_c g cap (p :: r) w hlies hn hl

theorem whole_snoc (b0 : Nat) (v : Value) (ps : List Bs) (q : Bs) (w : World) (h : Own b0 w v (ps ++ [q])) (hP : Parts ps) (hq : isPart q = true) :
    Calls Try.prog 71 #[v] w fun e w' => e = .returned (.string (B (joinP (ps ++ [q])))) ∧ Below w.heap.size w w' := by
  have h1 := hP.1
  have h2 := hP.lens
  have h3 := isPart_len hq
  have h4 : (ps ++ [q]).length ≤ 1000 := by simp; omega
  have h5 : lens (ps ++ [q]) ≤ 500000000 := by unfold lens at h2 ⊢; rw [List.map_append, List.sum_append]; simp; omega
  cases he : ps ++ [q] with
  | nil => simp at he
  | cons p r => rw [he] at h h4 h5; exact whole_own b0 v p r w h h4 h5

set_option maxHeartbeats 400000 in
theorem Right_c (l : Bs) (w : World) (hl : l.length ≤ 4611686018427387904) :
    Calls Try.prog 54 #[.string (B l)] w fun e w' => e = .returned (.bool (split l).isSome) ∧ Below w.heap.size w w' := by
  go_enter Try.func54, Try.ntmps54
  go_wp2_with fail
  refine (Split_c l w hl).mono ?_
  rintro e w1 ⟨v, rfl, _, hb⟩
  go_wp2
  go_ret
  exact ⟨rfl, hb⟩

set_option maxHeartbeats 400000 in
theorem Parent_c (l : Bs) (w : World) (hl : l.length ≤ 4611686018427387904) :
    Calls Try.prog 63 #[.string (B l)] w fun e w' => e = .returned (.tuple #[.string (B ((parent l).getD [])), .bool (parent l).isSome]) ∧ Below w.heap.size w w' := by
  cases hs : split l with
  | none =>
    have hp : parent l = none := by unfold parent; rw [hs]
    rw [hp]
    have HS := Lib.hid hs; clear hs hp
    go_enter Try.func63, Try.ntmps63
    go_wp2_with fail
    refine (Split_c l w hl).mono ?_
    rintro e w1 ⟨v, rfl, hown, hb⟩
    rw [HS.out] at hown ⊢
    go_wp2
    go_ret2
    exact ⟨rfl, hb⟩
  | some ps =>
    cases ps with
    | nil =>
      have hp : parent l = none := by unfold parent; rw [hs]
      rw [hp]
      have HS := Lib.hid hs; clear hs hp
      go_enter Try.func63, Try.ntmps63
      go_wp2_with fail
      refine (Split_c l w hl).mono ?_
      rintro e w1 ⟨v, rfl, hown, hb⟩
      rw [HS.out] at hown ⊢
      obtain rfl := hown.2 rfl
      go_wp2
      go_ret2
      exact ⟨rfl, hb⟩
    | cons p r =>
      have hp : parent l = some (joinP (p :: r).dropLast) := by unfold parent; rw [hs]
      have hP := ((split_iff _ _).1 hs).1
      rw [hp]
      have HS := Lib.hid hs; clear hs hp
      go_enter Try.func63, Try.ntmps63
      go_wp2_with fail
      refine (Split_c l w hl).mono ?_
      rintro e w1 ⟨v, rfl, hown, hb⟩
      rw [HS.out] at hown ⊢
      obtain ⟨g, cap, rfl, hg, hlies⟩ := hown.lies
      have h6 := hP.1
      have hc1 := hlies.room
      have hc2 := hlies.most
      unfold maxLen at hc2
      simp only [List.length_cons] at hc1 h6
      have hd : (p :: r).dropLast = (p :: r).take r.length := by rw [List.dropLast_eq_take]; simp
      have hlen : ((p :: r).take r.length).length = r.length := by simp
      have hln := hP.lens
      have hw := whole_c g cap ((p :: r).take r.length) w1 (hlies.take _) (by omega) (Nat.le_trans (lens_take_le _ _) (by omega))
      rw [hlen, ← hd] at hw
      have HW := Lib.hid hw; clear hw hlen hd hln hlies
      go_wp2_with fail
      refine HW.out.mono ?_
      rintro e w2 ⟨rfl, hb2⟩
      have hb2' := hb.trans (hb2.mono hb.size)
      clear hb2
      go_wp2
      go_ret2
      exact ⟨rfl, hb2'⟩

end Go.Proofs.Ytcjpgenlhphapaa
