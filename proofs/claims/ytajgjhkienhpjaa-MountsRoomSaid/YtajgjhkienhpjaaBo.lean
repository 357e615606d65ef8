/- The arguments of the laws of layer 14: bytes (gen_bo.py) -/
import Derived.Test.YtajgjhkienhpjaaBv
namespace Go.Proofs.Ytajgjhkienhpjaa
set_option maxRecDepth 20000
set_option linter.unusedVariables false
set_option linter.unusedSimpArgs false
open Go.ChangeShapes Go.WideShapes Go.ChangeAt Go.RowKit Pm Go.Deep
open Go.WideMaps Go.WideElems
open Go.ChangeMaps (setBlock shut_map_nil open_string shut_string)

/-- A slice that reads as bytes. -/
structure ByM (w : World) (v : Value) (l : Bs) : Prop where
  ex : ∃ ao cap, v = .slice ao l.length cap ∧ l.length ≤ cap ∧ cap ≤ maxLen ∧ (l = [] ∨ ∃ g o, ao = some ⟨g, o, none⟩ ∧ g < w.heap.size ∧ ∀ i (h : i < l.length), w.cell? ⟨g, o + i, none⟩ = some (.int .u8 (l[i].toNat : Int)))
theorem ByM.nil (w : World) : ByM w (.slice none 0 0) [] := ⟨none, 0, rfl, Nat.le_refl _, Nat.zero_le _, .inl rfl⟩
theorem ByM.non {w w' : World} {v : Value} {l : Bs} (h : ByM w v l) (f : Fp Non w w') : ByM w' v l := by
  obtain ⟨ao, cap, rfl, h1, h2, h3⟩ := h.ex
  refine ⟨ao, cap, rfl, h1, h2, ?_⟩
  rcases h3 with h3 | ⟨g, o, rfl, hg, hc⟩
  · exact .inl h3
  · exact .inr ⟨g, o, rfl, Nat.lt_of_lt_of_le hg f.size, fun i hi => f.cell (hc i hi) (fun h => h)⟩
theorem ByM.shape {w : World} {v : Value} {l : Bs} (h : ByM w v l) : ∃ ao cap, v = .slice ao l.length cap := by
  obtain ⟨ao, cap, rfl, _⟩ := h.ex; exact ⟨ao, cap, rfl⟩
section
variable {H : Type} {enc : TypeId × Value → H} {W : World}

/-- []byte, opened. -/
theorem open_byM {v : Value} {d : DataW H} {p : List MemPlace} {base : Nat} (hv : Value.okWide Try.prog W .any base 35 v) (h : DataW.Trod enc Try.prog W 0 (fun _ => true) true 35 v d p) :
    ∃ l, ByM W v l := by
  obtain ⟨a0, len, cap, rfl⟩ := okWide_slice Try.underlying35 hv
  obtain ⟨fuel, hf⟩ := h
  have hf : DataW.trod enc Try.prog W 0 (fun _ => true) true fuel 35 [.slice a0 len cap] = some (d, p) := by simpa [Value.cells] using hf
  rcases open_ints Try.underlying35 Try.underlying5 Try.cellsBy hf with ⟨hcs, hx⟩ | ⟨a, len', cap', zs, hcs, _, hl, hm, hz, hx, hcell, hwz⟩
  · simp only [List.cons.injEq, Value.slice.injEq, and_true] at hcs
    obtain ⟨rfl, rfl, rfl⟩ := hcs
    exact ⟨[], ByM.nil W⟩
  · simp only [List.cons.injEq, Value.slice.injEq, and_true] at hcs
    obtain ⟨rfl, rfl, rfl⟩ := hcs
    simp only [if_true] at hz
    have hw : a.spot = none ∧ a.block < W.heap.size := by
      simp only [Value.okWide, Cell.okWide, Cell.ok, Try.underlying35] at hv
      obtain ⟨_, _, _, hs, row, cells, hsh, _⟩ := hv
      refine ⟨hs, ?_⟩
      unfold World.shape? at hsh
      rcases Nat.lt_or_ge a.block W.heap.size with h | h
      · exact h
      · rw [Array.getElem?_eq_none h] at hsh; simp at hsh
    obtain ⟨g, o, sp⟩ := a
    simp only at hw
    obtain ⟨rfl, hg⟩ := hw
    have hbd : ∀ j (h : j < zs.length), 0 ≤ zs[j] ∧ zs[j] ≤ 255 := fun j h => bounds_u8 (hwz _ (List.getElem_mem h))
    refine ⟨(zs.take len).map fun x => UInt8.ofNat x.toNat, some ⟨g, o, none⟩, cap, by simp; omega, by simp; omega, hm, .inr ⟨g, o, rfl, hg, fun j hj => ?_⟩⟩
    have hj' : j < zs.length := by simp at hj; omega
    have hc := hcell j hj'
    rw [Addr.add_lit] at hc
    rw [hc]
    have := hbd j hj'
    simp [List.getD, List.getElem?_eq_getElem hj']
    omega
end
end Go.Proofs.Ytajgjhkienhpjaa
