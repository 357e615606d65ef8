/- The arguments of the laws: bytes. -/
import Derived.Test.YtankfmlafmjaeaaGreatCr
import Derived.ProofKit
import Derived.OpenShut
import Derived.Deep.Strs
import Derived.ChangeSlices
namespace Go.Proofs.YtankfmlafmjaeaaGreat
set_option maxRecDepth 20000
open Go.ChangeShapes Go.WideShapes Go.ChangeAt Go.RowKit Pm Go.Deep
open Go.WideMaps Go.WideElems
open Go.ChangeMaps (setBlock shut_map_nil open_string shut_string)

theorem spot_none {w : World} {a : Addr} {v : Value} (h : w.cell? a = some v) : ∃ g o, a = ⟨g, o, none⟩ := by
  obtain ⟨g, o, spot⟩ := a
  have hs : spot = none := World.cell?_spot h
  exact ⟨g, o, by rw [hs]⟩

theorem Tryz.cellsBy : Tryz.prog.cellsOf 5 = 1 := by kernel_rfl

section
variable {H : Type} {enc : TypeId × Value → H} {W : World}

/-- []byte, opened. -/
theorem open_bytes {v : Value} {d : DataW H} {p : List MemPlace} {base : Nat} (hv : Value.okWide Tryz.prog W .any base 22 v) (h : DataW.Trod enc Tryz.prog W 0 (fun _ => true) true 22 v d p) :
    ∃ l, Sl W v l := by
  obtain ⟨a0, len, cap, rfl⟩ := okWide_slice Tryz.underlying22 hv
  obtain ⟨fuel, hf⟩ := h
  have hf : DataW.trod enc Tryz.prog W 0 (fun _ => true) true fuel 22 [.slice a0 len cap] = some (d, p) := by simpa [Value.cells] using hf
  rcases open_ints Tryz.underlying22 Tryz.underlying5 Tryz.cellsBy hf with ⟨hcs, hx⟩ | ⟨a, len', cap', zs, hcs, _, hl, hm, hz, hx, hcell, hwz⟩
  · simp only [List.cons.injEq, Value.slice.injEq, and_true] at hcs
    obtain ⟨rfl, rfl, rfl⟩ := hcs
    exact ⟨[], Sl.nil W⟩
  · simp only [List.cons.injEq, Value.slice.injEq, and_true] at hcs
    obtain ⟨rfl, rfl, rfl⟩ := hcs
    simp only [if_true] at hz
    have hw : a.spot = none ∧ a.block < W.heap.size := by
      simp only [Value.okWide, Cell.okWide, Cell.ok, Tryz.underlying22] at hv
      obtain ⟨_, _, _, hs, row, cells, hsh, _⟩ := hv
      refine ⟨hs, ?_⟩
      unfold World.shape? at hsh
      rcases Nat.lt_or_ge a.block W.heap.size with h | h
      · exact h
      · rw [Array.getElem?_eq_none h] at hsh; simp at hsh
    obtain ⟨g, o, sp⟩ := a
    simp only at hw
    obtain ⟨rfl, hg⟩ := hw
    have hbd : ∀ j (h : j < zs.length), 0 ≤ zs[j] ∧ zs[j] ≤ 255 := fun j h => bounds_u8 (hwz _ (List.getElem_mem h))
    refine ⟨(zs.take len).map fun x => UInt8.ofNat x.toNat, some ⟨g, o, none⟩, cap, by simp; omega, by simp; omega, hm, .inr ⟨g, o, rfl, hg, fun j hj => ?_⟩⟩
    have hj' : j < zs.length := by simp at hj; omega
    have hc := hcell j hj'
    rw [Addr.add_lit] at hc
    rw [hc]
    have := hbd j hj'
    simp [List.getD, List.getElem?_eq_getElem hj']
    omega
end
end Go.Proofs.YtankfmlafmjaeaaGreat
