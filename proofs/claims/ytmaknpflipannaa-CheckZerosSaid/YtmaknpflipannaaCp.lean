/- Copies of bytes: append to what is new, a byte stored. -/
import Derived.Test.YtmaknpflipannaaHd
namespace Go.Proofs.Ytmaknpflipannaa
open Go.RowKit Pm

theorem Nw.more {w0 w : World} {v : Value} {l : Bs} (h : Nw w0 w v l) (x : Value) (s : Bs) (ty : TypeId) (hx : Sl w x s) (hn : l.length + s.length ≤ 100000000) :
    ∃ v' w', (Builtin.append_ #[23, 23] ty #[v, x]).run Try.prog w = .ok v' w' ∧ Nw w0 w' v' (l ++ s) := by
  obtain ⟨v', w', hr, hA⟩ := app_sl w w0.heap.size v l s ty x h.own hx hn h.fp.size
  exact ⟨v', w', hr, hA.own, h.fp.grown hA.grown (fun k hk => .inr (h.own.lt k hk).1)⟩
theorem Nw.made (w : World) : Nw w (w.alloc (.cells #[] 5)) (.slice (some ⟨w.heap.size, 0, none⟩) 0 0) [] :=
  ⟨World.ownsRow_made w #[] 0 (Nat.le_refl _) (Nat.zero_le _) rfl, (Fp.refl Non w).alloc _⟩
theorem Nw.made1 (w : World) (c : UInt8) : Nw w (w.alloc (.cells #[.int .u8 (c.toNat : Int)] 5)) (.slice (some ⟨w.heap.size, 0, none⟩) 1 1) [c] := by
  refine ⟨⟨rfl, .inr ⟨w.heap.size, 1, _, rfl, Nat.le_refl _, heap_alloc_new w _, Nat.le_refl _, by unfold maxLen; omega, rfl, ?_⟩⟩, (Fp.refl Non w).alloc _⟩
  rfl
theorem Nw.alloc {w0 w : World} {v : Value} {l : Bs} (h : Nw w0 w v l) (o : Obj) : Nw w0 (w.alloc o) v l := ⟨h.own.alloc _, h.fp.alloc _⟩
theorem Nw.some {w0 w : World} {v : Value} {l : Bs} (h : Nw w0 w v l) (h0 : 0 < l.length) : ∃ g cap, v = .slice (some ⟨g, 0, none⟩) l.length cap ∧ l.length ≤ cap ∧ w0.heap.size ≤ g ∧ ∀ j, w.frozen? ⟨g, j, none⟩ = false := by
  rcases h.own.2 with ⟨_, hz⟩ | ⟨g, cap, cur, hv, hb, hgg, r1, _⟩
  · omega
  · exact ⟨g, cap, hv, r1, hb, fun j => by simp [World.frozen?, hgg]⟩

theorem Sl.set {w : World} {g o n cap : Nat} {l : Bs} (h : Sl w (.slice (some ⟨g, o, none⟩) n cap) l) (j : Nat) (hj : j < l.length) (c : UInt8) :
    Sl (w.setCell ⟨g, o + j, none⟩ (.int .u8 (c.toNat : Int))) (.slice (some ⟨g, o, none⟩) n cap) (l.set j c) := by
  obtain ⟨ao, cap', e, h1, h2, h3⟩ := h.ex
  injection e with e1 e2 e3
  subst e1 e2 e3
  refine ⟨_, cap, by rw [List.length_set], by rw [List.length_set]; exact h1, h2, .inr ?_⟩
  rcases h3 with ⟨h0, _⟩ | ⟨g2, o2, e, hg, hc⟩
  · cases h0
  · injection e with e
    injection e with e1 e2
    subst e1 e2
    refine ⟨g, o, rfl, by simpa [World.setCell] using hg, fun i hi => ?_⟩
    have hi' : i < l.length := by simpa using hi
    by_cases hij : i = j
    · subst hij
      rw [World.cell?_setCell_same' _ _ _ (by rw [hc i hi']; rfl)]
      simp
    · have hne : (⟨g, o + j, none⟩ : Addr) ≠ ⟨g, o + i, none⟩ := by intro e; injection e with _ e; omega
      rw [World.cell?_setCell_other _ _ _ _ hne, hc i hi']
      simp [Ne.symm hij]

theorem cut_mod (c L : Nat) : Int.tmod (c : Int) (L : Int) = ((c % L : Nat) : Int) ∧ (c : Int) % (L : Int) = ((c % L : Nat) : Int) := by
  constructor
  · rw [Int.tmod_eq_emod_of_nonneg (by omega)]; rfl
  · rfl
end Go.Proofs.Ytmaknpflipannaa
