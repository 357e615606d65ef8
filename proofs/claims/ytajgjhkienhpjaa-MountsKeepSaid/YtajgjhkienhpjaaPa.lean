/- The functions of package path: contracts over plain lists. -/
import Derived.Test.YtajgjhkienhpjaaBu
import Derived.Test.YtajgjhkienhpjaaPn
import Derived.Test.YtajgjhkienhpjaaShelf
import Derived.Lib.AppendIntMem
namespace Go.Proofs.Ytajgjhkienhpjaa
set_option maxRecDepth 20000
open Go.RowKit Pm

/-- A slice of strings whose cells lie at a block's head. -/
structure Lies (w : World) (g cap : Nat) (ps : List Bs) : Prop where
  lt : g < w.heap.size
  room : ps.length ≤ cap
  most : cap ≤ maxLen
  cell : ∀ j (h : j < ps.length), w.cell? ⟨g, j, none⟩ = some (strV ps[j])

theorem Own.lies {b0 : Nat} {w : World} {v : Value} {p : Bs} {r : List Bs} (h : Own b0 w v (p :: r)) :
    ∃ g cap, v = .slice (some ⟨g, 0, none⟩) (r.length + 1) cap ∧ b0 ≤ g ∧ Lies w g cap (p :: r) := by
  obtain ⟨ho, _⟩ := h
  rcases ho.2 with ⟨_, h0⟩ | ⟨g, cap, cur, rfl, hb, hg, hc, hm, hs, ht⟩
  · simp at h0
  · refine ⟨g, cap, rfl, hb, (Array.getElem?_eq_some_iff.1 hg).1, hc, hm, fun j hj => ?_⟩
    have := ho.cellAt j (by simpa using hj)
    rw [this, List.getElem?_map, List.getElem?_eq_getElem hj]
    rfl

theorem Own.shape {b0 : Nat} {w : World} {v : Value} {ps : List Bs} (h : Own b0 w v ps) : ∃ ao cap, v = .slice ao ps.length cap := by
  cases ps with
  | nil => exact ⟨none, 0, h.2 rfl⟩
  | cons p r => obtain ⟨g, cap, rfl, _⟩ := h.lies; exact ⟨_, _, rfl⟩

theorem Lies.below {w w' : World} {g cap : Nat} {ps : List Bs} (h : Lies w g cap ps) {b0 : Nat} (hb : Below b0 w w') (hg : g < b0) : Lies w' g cap ps :=
  ⟨Nat.lt_of_lt_of_le h.lt hb.size, h.room, h.most, fun j hj => by rw [hb.cell (p := ⟨g, j, none⟩) hg]; exact h.cell j hj⟩

theorem Lies.take {w : World} {g cap : Nat} {ps : List Bs} (h : Lies w g cap ps) (k : Nat) : Lies w g cap (ps.take k) :=
  ⟨h.lt, by have := h.room; rw [List.length_take]; omega, h.most, fun j hj => by
    rw [List.getElem_take]; exact h.cell j (by rw [List.length_take] at hj; omega)⟩

set_option maxHeartbeats 400000 in
theorem Right_c (l : Bs) (w : World) (hl : l.length ≤ 4611686018427387904) :
    Calls Try.prog 31 #[.string (B l)] w fun e w' => e = .returned (.bool (split l).isSome) ∧ Below w.heap.size w w' := by
  go_enter Try.func31, Try.ntmps31
  go_wp2_with fail
  refine (Split_c l w hl).mono ?_
  rintro e w1 ⟨v, rfl, _, hb⟩
  go_wp2
  go_ret
  exact ⟨rfl, hb⟩

end Go.Proofs.Ytajgjhkienhpjaa
