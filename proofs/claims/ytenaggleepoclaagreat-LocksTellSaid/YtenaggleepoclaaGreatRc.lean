/- The document's own path functions, walked. -/
import Derived.Test.YtenaggleepoclaaGreatRb
import Derived.Laws.AppendOwnNone
namespace Go.Proofs.YtenaggleepoclaaGreat
set_option maxRecDepth 20000
open Go.RowKit Pm

set_option maxHeartbeats 400000 in
theorem rRight_g (l : Bs) (w : World) (hl : sz l) :
    Calls Tryz.prog 33 #[.string (B l)] w fun e w' => e = .returned (.bool (split l).isSome) ∧ Gr w w' := by
  go_enter Tryz.func33, Tryz.ntmps33
  go_wp2_with fail
  refine (rSplit_c l w hl).mono ?_
  rintro e w1 ⟨v, rfl, _, hb⟩
  go_wp2
  go_ret
  exact ⟨rfl, hb⟩

theorem no_parent {l : Bs} (h : parent l = none) : (split l).getD [] = [] := by
  unfold parent at h
  split at h
  · cases h
  · rename_i hx
    cases hs : split l with
    | none => rfl
    | some ps => cases ps with
      | nil => rfl
      | cons p r => exact absurd hs (hx p r)
theorem has_parent {l a : Bs} (h : parent l = some a) : ∃ p r, split l = some (p :: r) ∧ a = joinP (p :: r).dropLast := by
  unfold parent at h
  split at h
  · rename_i p r hs; injection h with h; exact ⟨p, r, hs, h.symm⟩
  · cases h

theorem rPart_at (q : Bs) (b : Bool) (w : World) (hl : sz q) (h : isPart q = b) :
    Calls Tryz.prog 76 #[.string (B q)] w fun e w' => e = .returned (.bool b) ∧ w = w' := by
  rw [← h]; exact rPart_c q w (Nat.le_trans hl (by omega))

theorem Lies.news {w : World} {g cap : Nat} {ps : List Bs} (h : Lies w g cap ps) : ∀ j u, (ps.map strV)[j]? = some u → w.cell? ((⟨g, 0, none⟩ : Addr).add j) = some u := by
  intro j u hj
  rw [List.getElem?_map, Option.map_eq_some_iff] at hj
  obtain ⟨x, hx, rfl⟩ := hj
  obtain ⟨hlt, rfl⟩ := List.getElem?_eq_some_iff.1 hx
  have e : (⟨g, 0, none⟩ : Addr).add j = ⟨g, j, none⟩ := by cases j <;> simp [Addr.add]
  rw [e]; exact h.cell j hlt
theorem many_c2 (ps : List Bs) : ∀ u, u ∈ ps.map strV → u.oneCell' = true := by
  intro u hu; simp at hu; obtain ⟨x, _, rfl⟩ := hu; rfl

/-- Equal, element by element. -/
theorem rSame_c (g1 c1 g2 c2 : Nat) (a b : List Bs) (w : World) (h1 : Lies w g1 c1 a) (h2 : Lies w g2 c2 b) (hab : a = b) :
    Calls Tryz.prog 21 #[.slice (some ⟨g1, 0, none⟩) a.length c1, .slice (some ⟨g2, 0, none⟩) b.length c2] w fun e w' => e = .returned (.bool true) ∧ Dr w w' := by
  subst hab
  have hc1 := h1.cell
  have hc2 := h2.cell
  have hr1 := h1.room
  have hm1 := h1.most
  unfold strV at hc1 hc2
  unfold maxLen at hm1
  have H1 := Lib.hid hc1; clear hc1 h1
  have H2 := Lib.hid hc2; clear hc2 h2
  go_enter Tryz.func21, Tryz.ntmps21
  go_wp2
  go_loopw [5] (fun i wr => ∃ k : Nat, k ≤ a.length ∧ i = .int .i64 k ∧ Dr w wr) (fun i _ => a.length - (intOf i).toNat)
  case atStart => exact ⟨0, Nat.zero_le _, rfl, Dr.refl _⟩
  case round =>
    obtain ⟨k, hk, rfl, hd⟩ := hrel
    by_cases hlt : k < a.length
    · have e1 := H1.out k hlt
      have e2 := H2.out k hlt
      generalize a[k] = x at e1 e2
      have e1' : wr.cell? ⟨g1, k, none⟩ = some (.string (B x)) := by obtain ⟨n, rfl⟩ := hd; exact e1
      have e2' : wr.cell? ⟨g2, k, none⟩ = some (.string (B x)) := by obtain ⟨n, rfl⟩ := hd; exact e2
      have hlti : (k : Int) < (a.length : Int) := by omega
      clear e1 e2
      go_wp2
      go_quiet (fail)
      go_wp2
      go_roundw
      case rel => exact ⟨k + 1, by omega, by go_num, hd.trans (Dr.of _ _)⟩
      case measure => simp [intOf]; omega
    · go_wp2
      go_ret
      exact ⟨rfl, hd⟩
end Go.Proofs.YtenaggleepoclaaGreat
