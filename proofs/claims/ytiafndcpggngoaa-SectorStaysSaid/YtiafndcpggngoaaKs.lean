/- Plain lists, for SectorStays: where a sector stands in the list of loose ones, and how a crash leaves it. -/
import Derived.Test.YtiafndcpggngoaaKm
namespace Go.Proofs.Ytiafndcpggngoaa
namespace Pm

/-- The last place below k where i stands in L; -1 if nowhere. -/
def posn (L : List Nat) (i : Nat) : Nat → Int
  | 0 => -1
  | k + 1 => if L[k]? = some i then (k : Int) else posn L i k
theorem posn_cases (L : List Nat) (i : Nat) : ∀ k, (∃ p, p < k ∧ L[p]? = some i ∧ posn L i k = (p : Int)) ∨ ((∀ p, p < k → L[p]? ≠ some i) ∧ posn L i k = -1)
  | 0 => .inr ⟨fun p h => absurd h (Nat.not_lt_zero p), rfl⟩
  | k + 1 => by
    by_cases h : L[k]? = some i
    · exact .inl ⟨k, Nat.lt_succ_self k, h, by simp [posn, h]⟩
    · rcases posn_cases L i k with ⟨p, h1, h2, h3⟩ | ⟨h1, h3⟩
      · exact .inl ⟨p, Nat.lt_succ_of_lt h1, h2, by simp [posn, h, h3]⟩
      · refine .inr ⟨fun p hp => ?_, by simp [posn, h, h3]⟩
        rcases Nat.lt_succ_iff_lt_or_eq.1 hp with hp | rfl
        · exact h1 p hp
        · exact h
theorem loose_lt {wet : List Bool} {q : Nat} (h : q ∈ loose wet) : q < wet.length := by
  unfold loose at h; simp at h; exact h.1
theorem loose_mem {wet : List Bool} {q : Nat} (h : q < wet.length) (hq : wet[q] = true) : q ∈ loose wet := by
  unfold loose; simp [h, hq]
/-- How a crash leaves sector i: by its place among the loose ones. -/
theorem stays {s : Dk} (hs : Rt s) (keep : List Bool) (i : Nat) (hi : i < s.wet.length) :
    (∃ p, p < (loose s.wet).length ∧ posn (loose s.wet) i (loose s.wet).length = (p : Int) ∧ blk (dCrash s keep).cur i = if keep.getD p false then blk s.cur i else blk s.old i) ∨
    (posn (loose s.wet) i (loose s.wet).length = -1 ∧ blk s.cur i = blk s.old i ∧ blk (dCrash s keep).cur i = blk s.old i) := by
  have hc := cr_blk s.old keep s.wet.length hs.ol (loose s.wet) 0 s.cur (loose_nodup _) (fun q h => loose_lt h) hs.cl
  rcases posn_cases (loose s.wet) i (loose s.wet).length with ⟨p, h1, h2, h3⟩ | ⟨h1, h3⟩
  · refine .inl ⟨p, h1, h3, ?_⟩
    have h4 : (loose s.wet)[p] = i := by rw [List.getElem?_eq_getElem h1] at h2; exact Option.some.inj h2
    have h5 := hc.1 p h1
    rw [h4, Nat.zero_add] at h5
    exact h5
  · have hn : i ∉ loose s.wet := fun h => by
      obtain ⟨p, hp, h4⟩ := List.getElem_of_mem h
      exact h1 p hp (by rw [List.getElem?_eq_getElem hp, h4])
    have hw : s.wet[i] = false := by
      cases e : s.wet[i] with
      | false => rfl
      | true => exact absurd (loose_mem hi e) hn
    have hd := hs.dry i hi hw
    exact .inr ⟨h3, hd, (hc.2 i hi hn).trans hd⟩
end Pm
end Go.Proofs.Ytiafndcpggngoaa
