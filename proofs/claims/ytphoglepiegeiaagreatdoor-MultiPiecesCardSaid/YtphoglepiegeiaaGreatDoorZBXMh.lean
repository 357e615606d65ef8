/- A text of this proof. -/
import Derived.Test.YtphoglepiegeiaaGreatDoorZBBC
import Derived.Test.YtphoglepiegeiaaGreatDoorZBBG
set_option linter.unusedSimpArgs false
set_option linter.unusedVariables false
namespace Go.Proofs.YtphoglepiegeiaaGreatDoor
set_option maxRecDepth 20000
open Go.RowKit Pm
theorem Kp.ops {W : World} {v : Value} {l : List Opn} (h : Ops W v l) : Kp (fun W' => Ops W' v l) W := fun W' f => h.non f
theorem Kp.pcs {W : World} {v : Value} {l : List (Nat × Pt)} (h : Pcs W v l) : Kp (fun W' => Pcs W' v l) W := fun W' f => h.non f
theorem keep_le (t : List Nd) : (keep t).nodes.length ≤ t.length ∧ (keep t).turns.length ≤ t.length := by
 refine ⟨by simp [keep], ?_⟩
 unfold keep turnsOf
 simp only [List.length_map]
 exact List.length_filter_le _ _
structure PcM (l : List Opn) (w : World) (k : Nat) (c : Nat) (wr : World) : Prop where
 fp : Fp Non w wr
 eq : c = (partsL (l.take k)).length
theorem parts_few (l : List Opn) : (partsL l).length ≤ 2 * l.length := by
 rw [← pieces_len 0 l]; exact pieces_few l 0
theorem piece_facts {l : List Opn} (hm : ∀ o ∈ l, may o = true) {i : Nat} (hi : i < (piecesFrom 0 l).length) : (piecesFrom 0 l)[i].1 < l.length ∧ mayP (piecesFrom 0 l)[i].2 = true ∧ ∀ j, j + 1 = i → ∃ hj : j < (piecesFrom 0 l).length, (piecesFrom 0 l)[j].1 ≤ (piecesFrom 0 l)[i].1 := by
 obtain ⟨_, h2, o, ho, hp⟩ := pieces_fst 0 l _ (List.getElem_mem hi)
 refine ⟨by omega, (partsOf_may o _ hp).1, fun j hj => ⟨by omega, ?_⟩⟩
 have := pieces_rise 0 l
 rw [List.pairwise_iff_getElem] at this
 exact this j i (by omega) hi (by omega)
theorem keep_small {t : List Nd} (h : Tr t) {m : Nat} (hn : t.length + m ≤ 512) {q : Nat} (hq : q ≤ 2 * m) : (keep t).nodes.length + q ≤ 3900 ∧ (keep t).turns.length + q ≤ 3900 := by
 have h1 : (keep t).nodes.length = t.length := by simp [keep]
 have h2 : (keep t).turns.length ≤ t.length := by
  unfold keep turnsOf
  simp only [List.length_map]
  exact List.length_filter_le _ _
 omega
theorem piece_path {l : List Opn} (hm : ∀ o ∈ l, may o = true) : ∀ q ∈ piecesFrom 0 l, q.2.path.length ≤ 1000000 := fun q hq => by
 obtain ⟨i, hi, rfl⟩ := List.getElem_of_mem hq
 have h := (piece_facts hm hi).2.1
 have := split_len ((mayP_iff _).1 h).2.1
 omega
end Go.Proofs.YtphoglepiegeiaaGreatDoor
