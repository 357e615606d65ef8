/- The arguments of the laws, on: bools, and slices of slices of bytes. -/
import Derived.Test.YtankfmlafmjaeaaGreatIt
import Derived.Test.YtankfmlafmjaeaaGreatRe
import Derived.Deep.Grids
namespace Go.Proofs.YtankfmlafmjaeaaGreat
set_option maxRecDepth 20000
open Go.ChangeShapes Go.WideShapes Go.ChangeAt Go.RowKit Pm Go.Deep
open Go.WideMaps Go.WideElems
open Go.ChangeMaps (setBlock shut_map_nil open_string shut_string)

theorem Tryz.cellsBool : Tryz.prog.cellsOf 4 = 1 := by kernel_rfl
theorem Tryz.bytesBool : Tryz.prog.bytesOf 4 = 1 := by kernel_rfl
theorem Tryz.cellsBs : Tryz.prog.cellsOf 22 = 1 := by kernel_rfl

section
variable {H : Type} {enc : TypeId × Value → H} {W : World}

/-- []bool within, opened. -/
theorem open_bools_in {fuel : Nat} {v : Value} {y : DataW H × List MemPlace} (h : DataW.trod enc Tryz.prog W 0 (fun _ => true) true fuel 38 [v] = some y) :
    ∃ l, Sb W v l ∧ (0 < l.length → ∀ k, v.ownBlock = some k → k < W.heap.size) ∧ ((∀ n ∈ y.1.weights Tryz.prog 38, n ≤ reachBytes) → l.length ≤ 140737488355328) := by
  rcases open_bools Tryz.underlying38 Tryz.underlying4 Tryz.cellsBool h with ⟨hcs, hx⟩ | ⟨a, len, cap, Bf, hcs, _, hl, hm, hx, hcell⟩
  · simp only [List.cons.injEq, and_true] at hcs
    subst hcs
    exact ⟨[], Sb.nil W, fun h => by simp at h, fun _ => Nat.zero_le _⟩
  · simp only [List.cons.injEq, and_true] at hcs
    subst hcs
    have hlen : ((List.range len).map Bf).length = len := by simp
    have hwt : (∀ n ∈ y.1.weights Tryz.prog 38, n ≤ reachBytes) → len ≤ 140737488355328 := by
      intro hw
      subst hx
      have := hw (((List.range len).map fun i => (DataW.lit (.bool (Bf i)) : DataW H)).length + ((List.range (cap - len)).map fun j => (DataW.lit (.bool (Bf (len + j))) : DataW H)).length) (by simp [boolRow, DataW.weights, Tryz.underlying38, Tryz.bytesBool])
      simp only [List.length_map, List.length_range, reachBytes] at this
      omega
    by_cases h0 : cap = 0
    · exact ⟨(List.range len).map Bf, ⟨some a, cap, by rw [hlen], by rw [hlen]; exact hl, hm, .inl h0⟩, fun h => by rw [hlen] at h; omega, fun h => by rw [hlen]; exact hwt h⟩
    · have hc0 := hcell 0 (by omega)
      have hc0 : W.cell? a = some (.bool (Bf 0)) := by simpa [Addr.add] using hc0
      have hlt := World.block_lt_of_cell? W a hc0
      obtain ⟨g, o, rfl⟩ := spot_none hc0
      refine ⟨(List.range len).map Bf, ⟨some ⟨g, o, none⟩, cap, by rw [hlen], by rw [hlen]; exact hl, hm, .inr ⟨g, o, rfl, hlt, fun j hj => ?_⟩⟩, fun _ k hk => by simp [Value.ownBlock] at hk; simp at hlt; omega, fun h => by rw [hlen]; exact hwt h⟩
      rw [hlen] at hj
      have := hcell j (by omega)
      rw [Addr.add_lit] at this
      rw [this]
      simp
/-- []byte within, opened. -/
theorem open_bytes_in {fuel : Nat} {v : Value} {y : DataW H × List MemPlace} (h : DataW.trod enc Tryz.prog W 0 (fun _ => true) true fuel 22 [v] = some y) :
    ∃ l, Sl0 W v l ∧ (0 < l.length → ∀ k, v.ownBlock = some k → k < W.heap.size) := by
  rcases open_ints Tryz.underlying22 Tryz.underlying5 Tryz.cellsBy h with ⟨hcs, hx⟩ | ⟨a, len, cap, zs, hcs, _, hl, hm, hz, hx, hcell, hwz⟩
  · simp only [List.cons.injEq, and_true] at hcs
    subst hcs
    exact ⟨[], (Sl.nil W).zero, fun h => by simp at h⟩
  · simp only [List.cons.injEq, and_true] at hcs
    subst hcs
    simp only [if_true] at hz
    have hlen : ((zs.take len).map fun x => UInt8.ofNat x.toNat).length = len := by simp; omega
    by_cases h0 : cap = 0
    · exact ⟨_, ⟨some a, cap, by rw [hlen], by rw [hlen]; exact hl, hm, .inl h0⟩, fun h => by rw [hlen] at h; omega⟩
    · have hc0 := hcell 0 (by omega)
      have hc0 : W.cell? a = some (.int .u8 (zs.getD 0 0)) := by simpa [Addr.add] using hc0
      have hlt := World.block_lt_of_cell? W a hc0
      obtain ⟨g, o, rfl⟩ := spot_none hc0
      have hbd : ∀ j (h : j < zs.length), 0 ≤ zs[j] ∧ zs[j] ≤ 255 := fun j h => bounds_u8 (hwz _ (List.getElem_mem h))
      refine ⟨(zs.take len).map fun x => UInt8.ofNat x.toNat, ⟨some ⟨g, o, none⟩, cap, by rw [hlen], by rw [hlen]; exact hl, hm, .inr ⟨g, o, rfl, hlt, fun j hj => ?_⟩⟩, fun _ k hk => by simp [Value.ownBlock] at hk; simp at hlt; omega⟩
      have hj' : j < zs.length := by simp at hj; omega
      have hc := hcell j hj'
      rw [Addr.add_lit] at hc
      rw [hc]
      have := hbd j hj'
      simp [List.getD, List.getElem?_eq_getElem hj']
      omega
/-- []bool, opened. -/
theorem open_bools_c {v : Value} {d : DataW H} {p : List MemPlace} {base : Nat} (hv : Value.okWide Tryz.prog W .any base 38 v) (h : DataW.Trod enc Tryz.prog W 0 (fun _ => true) true 38 v d p) :
    ∃ l, Sb W v l ∧ (0 < l.length → ∀ k, v.ownBlock = some k → k < W.heap.size) := by
  obtain ⟨a0, len, cap, rfl⟩ := okWide_slice Tryz.underlying38 hv
  obtain ⟨fuel, hf⟩ := h
  have hf : DataW.trod enc Tryz.prog W 0 (fun _ => true) true fuel 38 [.slice a0 len cap] = some (d, p) := by simpa [Value.cells] using hf
  obtain ⟨l, h1, h2, _⟩ := open_bools_in hf
  exact ⟨l, h1, h2⟩


/-- [][]byte, opened. -/
theorem open_bss {v : Value} {d : DataW H} {p : List MemPlace} {base : Nat} (hv : Value.okWide Tryz.prog W .any base 47 v) (h : DataW.Trod enc Tryz.prog W 0 (fun _ => true) true 47 v d p) :
    ∃ ls, Bv (fun k => k < W.heap.size) W v ls := by
  obtain ⟨a0, len, cap, rfl⟩ := okWide_slice Tryz.underlying47 hv
  obtain ⟨fuel, hf⟩ := h
  have hf : DataW.trod enc Tryz.prog W 0 (fun _ => true) true fuel 47 [.slice a0 len cap] = some (d, p) := by simpa [Value.cells] using hf
  rcases open_slice Tryz.underlying47 hf with ⟨hcs, hx⟩ | ⟨a, len', cap', m, n, D, Pl, hcs, _, hl, hm, hmm, hx, hel⟩
  · simp only [List.cons.injEq, Value.slice.injEq, and_true] at hcs
    obtain ⟨rfl, rfl, rfl⟩ := hcs
    exact ⟨[], ⟨none, 0, rfl, fun h => by simp at h⟩⟩
  · simp only [List.cons.injEq, Value.slice.injEq, and_true] at hcs
    obtain ⟨rfl, rfl, rfl⟩ := hcs
    simp only [if_true] at hmm
    subst hmm
    have each : ∀ i, i < len → ∃ y : Value × Bs, W.cell? (a.add i) = some y.1 ∧ Sl0 W y.1 y.2 ∧ (0 < y.2.length → ∀ k, y.1.ownBlock = some k → k < W.heap.size) := by
      intro i hi
      obtain ⟨cs', h1, h2⟩ := hel i (by omega)
      rw [Tryz.cellsBs, Nat.mul_one] at h1
      obtain ⟨_, hlen, hcell⟩ := World.cells?_some h1
      match cs', hlen with
      | [x], _ =>
        obtain ⟨l, h3, h4⟩ := open_bytes_in h2
        have := hcell 0 (by omega)
        exact ⟨(x, l), by simpa [Addr.add] using this, h3, h4⟩
    obtain ⟨f, hfi⟩ : ∃ f : Nat → Value × Bs, ∀ i, i < len → W.cell? (a.add i) = some (f i).1 ∧ Sl0 W (f i).1 (f i).2 ∧ (0 < (f i).2.length → ∀ k, (f i).1.ownBlock = some k → k < W.heap.size) := by
      haveI : Inhabited (Value × Bs) := ⟨(.slice none 0 0, [])⟩
      exact choose_lt each
    have hlen : ((List.range len).map fun i => (f i).2).length = len := by simp
    refine ⟨(List.range len).map fun i => (f i).2, ⟨some a, m, by rw [hlen], fun h0 => ?_⟩⟩
    rw [hlen] at h0
    have hc0 := (hfi 0 h0).1
    have hc0 : W.cell? a = some (f 0).1 := by simpa [Addr.add] using hc0
    have hlt := World.block_lt_of_cell? W a hc0
    obtain ⟨g, o, rfl⟩ := spot_none hc0
    refine ⟨g, o, rfl, hlt, fun k hk => ?_⟩
    rw [hlen] at hk
    obtain ⟨k1, k2, k3⟩ := hfi k hk
    rw [Addr.add_lit] at k1
    simp only [List.getElem_map, List.getElem_range]
    exact ⟨_, k1, k2.se, k3⟩
end
end Go.Proofs.YtankfmlafmjaeaaGreat
