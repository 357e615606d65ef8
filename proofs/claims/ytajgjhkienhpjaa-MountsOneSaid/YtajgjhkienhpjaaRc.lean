/- The document's own path functions, walked. -/
import Derived.Test.YtajgjhkienhpjaaRb
import Derived.Laws.AppendOwnNone
namespace Go.Proofs.Ytajgjhkienhpjaa
set_option maxRecDepth 20000
open Go.RowKit Pm

set_option maxHeartbeats 400000 in
theorem rRight_g (l : Bs) (w : World) (hl : sz l) :
    Calls Try.prog 11 #[.string (B l)] w fun e w' => e = .returned (.bool (split l).isSome) ∧ Gr w w' := by
  go_enter Try.func11, Try.ntmps11
  go_wp2_with fail
  refine (rSplit_c l w hl).mono ?_
  rintro e w1 ⟨v, rfl, _, hb⟩
  go_wp2
  go_ret
  exact ⟨rfl, hb⟩

theorem no_parent {l : Bs} (h : parent l = none) : (split l).getD [] = [] := by
  unfold parent at h
  split at h
  · cases h
  · rename_i hx
    cases hs : split l with
    | none => rfl
    | some ps => cases ps with
      | nil => rfl
      | cons p r => exact absurd hs (hx p r)
theorem has_parent {l a : Bs} (h : parent l = some a) : ∃ p r, split l = some (p :: r) ∧ a = joinP (p :: r).dropLast := by
  unfold parent at h
  split at h
  · rename_i p r hs; injection h with h; exact ⟨p, r, hs, h.symm⟩
  · cases h

theorem rPart_at (q : Bs) (b : Bool) (w : World) (hl : sz q) (h : isPart q = b) :
    Calls Try.prog 29 #[.string (B q)] w fun e w' => e = .returned (.bool b) ∧ w = w' := by
  rw [← h]; exact rPart_c q w (Nat.le_trans hl (by omega))

theorem Lies.news {w : World} {g cap : Nat} {ps : List Bs} (h : Lies w g cap ps) : ∀ j u, (ps.map strV)[j]? = some u → w.cell? ((⟨g, 0, none⟩ : Addr).add j) = some u := by
  intro j u hj
  rw [List.getElem?_map, Option.map_eq_some_iff] at hj
  obtain ⟨x, hx, rfl⟩ := hj
  obtain ⟨hlt, rfl⟩ := List.getElem?_eq_some_iff.1 hx
  have e : (⟨g, 0, none⟩ : Addr).add j = ⟨g, j, none⟩ := by cases j <;> simp [Addr.add]
  rw [e]; exact h.cell j hlt
theorem many_c2 (ps : List Bs) : ∀ u, u ∈ ps.map strV → u.oneCell' = true := by
  intro u hu; simp at hu; obtain ⟨x, _, rfl⟩ := hu; rfl

end Go.Proofs.Ytajgjhkienhpjaa
