/- The arguments of the laws: bytes, and lists of items. -/
import Derived.Test.YtidkihadlhkbkaaNw
import Derived.ProofKit
import Derived.OpenShut
import Derived.Deep.Strs
import Derived.ChangeSlices
namespace Go.Proofs.Ytidkihadlhkbkaa
open Go.ChangeShapes Go.WideShapes Go.ChangeAt Go.RowKit Pm Go.Deep
open Go.WideMaps Go.WideElems
open Go.ChangeMaps (setBlock shut_map_nil open_string shut_string)

/-- An item: what, number, text, texts (and the slice's value). -/
structure It where
  what : Int
  n : Int
  s : Bs
  lv : Value
  ps : List Bs

structure ItAt (w : World) (lo g o : Nat) (x : It) : Prop where
  c0 : w.cell? ⟨g, o, none⟩ = some (.int .i64 x.what)
  c1 : w.cell? ⟨g, o + 1, none⟩ = some (.int .i64 x.n)
  c2 : w.cell? ⟨g, o + 2, none⟩ = some (.string (B x.s))
  c3 : w.cell? ⟨g, o + 3, none⟩ = some x.lv
  ss : Ss w x.lv x.ps
  low : 0 < x.ps.length → ∀ k, x.lv.ownBlock = some k → k < lo
  sz : x.s.length ≤ maxLen

/-- A slice of items. -/
structure Its (w : World) (lo : Nat) (v : Value) (l : List It) : Prop where
  ex : ∃ ao cap, v = .slice ao l.length cap ∧ l.length ≤ cap ∧ cap ≤ maxLen ∧
    (cap = 0 ∨ ∃ g o, ao = some ⟨g, o, none⟩ ∧ g < lo ∧ ∀ i (h : i < l.length), ItAt w lo g (o + i * 4) l[i])

theorem ItAt.keep {w w' : World} {lo g o : Nat} {x : It} (h : ItAt w lo g o x) {S : Nat → Prop} (f : Fp S w w') (hS : ∀ k, S k → lo ≤ k) (hg : g < lo) : ItAt w' lo g o x := by
  have hn : ¬ S g := fun h => by have := hS g h; omega
  exact ⟨f.cell h.c0 hn, f.cell h.c1 hn, f.cell h.c2 hn, f.cell h.c3 hn, h.ss.keep f (fun h0 k hk hs => by have := h.low h0 k hk; have := hS k hs; omega), h.low, h.sz⟩
theorem Its.keep {w w' : World} {lo : Nat} {v : Value} {l : List It} (h : Its w lo v l) {S : Nat → Prop} (f : Fp S w w') (hS : ∀ k, S k → lo ≤ k) : Its w' lo v l := by
  obtain ⟨ao, cap, rfl, h1, h2, h3⟩ := h.ex
  refine ⟨ao, cap, rfl, h1, h2, ?_⟩
  rcases h3 with h3 | ⟨g, o, rfl, hg, hc⟩
  · exact .inl h3
  · exact .inr ⟨g, o, rfl, hg, fun i hi => (hc i hi).keep f hS hg⟩

theorem spot_none {w : World} {a : Addr} {v : Value} (h : w.cell? a = some v) : ∃ g o, a = ⟨g, o, none⟩ := by
  obtain ⟨g, o, spot⟩ := a
  have hs : spot = none := World.cell?_spot h
  exact ⟨g, o, by rw [hs]⟩

theorem Try.cellsBy : Try.prog.cellsOf 5 = 1 := by kernel_rfl
theorem Try.cellsStr : Try.prog.cellsOf 9 = 1 := by kernel_rfl
theorem Try.cellsItem : Try.prog.cellsOf 34 = 4 := by kernel_rfl

section
variable {H : Type} {enc : TypeId × Value → H} {W : World}

/-- []byte, opened. -/
theorem open_bytes {v : Value} {d : DataW H} {p : List MemPlace} {base : Nat} (hv : Value.okWide Try.prog W .any base 26 v) (h : DataW.Trod enc Try.prog W 0 (fun _ => true) true 26 v d p) :
    ∃ l, Sl W v l := by
  obtain ⟨a0, len, cap, rfl⟩ := okWide_slice Try.underlying26 hv
  obtain ⟨fuel, hf⟩ := h
  have hf : DataW.trod enc Try.prog W 0 (fun _ => true) true fuel 26 [.slice a0 len cap] = some (d, p) := by simpa [Value.cells] using hf
  rcases open_ints Try.underlying26 Try.underlying5 Try.cellsBy hf with ⟨hcs, hx⟩ | ⟨a, len', cap', zs, hcs, _, hl, hm, hz, hx, hcell, hwz⟩
  · simp only [List.cons.injEq, Value.slice.injEq, and_true] at hcs
    obtain ⟨rfl, rfl, rfl⟩ := hcs
    exact ⟨[], Sl.nil W⟩
  · simp only [List.cons.injEq, Value.slice.injEq, and_true] at hcs
    obtain ⟨rfl, rfl, rfl⟩ := hcs
    simp only [if_true] at hz
    have hw : a.spot = none ∧ a.block < W.heap.size := by
      simp only [Value.okWide, Cell.okWide, Cell.ok, Try.underlying26] at hv
      obtain ⟨_, _, _, hs, row, cells, hsh, _⟩ := hv
      refine ⟨hs, ?_⟩
      unfold World.shape? at hsh
      rcases Nat.lt_or_ge a.block W.heap.size with h | h
      · exact h
      · rw [Array.getElem?_eq_none h] at hsh; simp at hsh
    obtain ⟨g, o, sp⟩ := a
    simp only at hw
    obtain ⟨rfl, hg⟩ := hw
    have hbd : ∀ j (h : j < zs.length), 0 ≤ zs[j] ∧ zs[j] ≤ 255 := fun j h => bounds_u8 (hwz _ (List.getElem_mem h))
    refine ⟨(zs.take len).map fun x => UInt8.ofNat x.toNat, some ⟨g, o, none⟩, cap, by simp; omega, by simp; omega, hm, .inr ⟨g, o, rfl, hg, fun j hj => ?_⟩⟩
    have hj' : j < zs.length := by simp at hj; omega
    have hc := hcell j hj'
    rw [Addr.add_lit] at hc
    rw [hc]
    have := hbd j hj'
    simp [List.getD, List.getElem?_eq_getElem hj']
    omega
end
end Go.Proofs.Ytidkihadlhkbkaa
