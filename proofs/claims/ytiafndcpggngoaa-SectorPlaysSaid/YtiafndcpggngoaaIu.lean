/- The arguments of the laws, on: bools, and lists of calls. -/
import Derived.Test.YtiafndcpggngoaaIt
import Derived.Deep.Grids
namespace Go.Proofs.Ytiafndcpggngoaa
open Go.ChangeShapes Go.WideShapes Go.ChangeAt Go.RowKit Pm Go.Deep
open Go.WideMaps Go.WideElems
open Go.ChangeMaps (setBlock shut_map_nil open_string shut_string)

/-- A call: what, at, bytes, number, bools. -/
structure Oq where
  what : Int
  at_ : Int
  bv : Value
  b : Bs
  n : Int
  kv : Value
  keep : List Bool

structure OqAt (w : World) (lo g o : Nat) (x : Oq) : Prop where
  c0 : w.cell? ⟨g, o, none⟩ = some (.int .i64 x.what)
  c1 : w.cell? ⟨g, o + 1, none⟩ = some (.int .i64 x.at_)
  c2 : w.cell? ⟨g, o + 2, none⟩ = some x.bv
  c3 : w.cell? ⟨g, o + 3, none⟩ = some (.int .i64 x.n)
  c4 : w.cell? ⟨g, o + 4, none⟩ = some x.kv
  sb : Sl0 w x.bv x.b
  sk : Sb w x.kv x.keep
  lb : 0 < x.b.length → ∀ k, x.bv.ownBlock = some k → k < lo
  lk : 0 < x.keep.length → ∀ k, x.kv.ownBlock = some k → k < lo
  ha : -9223372036854775808 ≤ x.at_ ∧ x.at_ ≤ 9223372036854775807
  hn : -9223372036854775808 ≤ x.n ∧ x.n ≤ 9223372036854775807
  hw : -9223372036854775808 ≤ x.what ∧ x.what ≤ 9223372036854775807
  kl : x.keep.length ≤ 140737488355328

/-- A slice of calls. -/
structure Oqs (w : World) (lo : Nat) (v : Value) (l : List Oq) : Prop where
  ex : ∃ ao cap, v = .slice ao l.length cap ∧ l.length ≤ cap ∧ cap ≤ maxLen ∧
    (cap = 0 ∨ ∃ g o, ao = some ⟨g, o, none⟩ ∧ g < lo ∧ ∀ i (h : i < l.length), OqAt w lo g (o + i * 5) l[i])

theorem OqAt.keep_ {w w' : World} {lo g o : Nat} {x : Oq} (h : OqAt w lo g o x) {S : Nat → Prop} (f : Fp S w w') (hS : ∀ k, S k → lo ≤ k) (hg : g < lo) : OqAt w' lo g o x := by
  have hn : ¬ S g := fun h => by have := hS g h; omega
  exact ⟨f.cell h.c0 hn, f.cell h.c1 hn, f.cell h.c2 hn, f.cell h.c3 hn, f.cell h.c4 hn, h.sb.keep f (fun h0 k hk hs => by have := h.lb h0 k hk; have := hS k hs; omega),
    h.sk.keep f (fun h0 k hk hs => by have := h.lk h0 k hk; have := hS k hs; omega), h.lb, h.lk, h.ha, h.hn, h.hw, h.kl⟩
theorem Oqs.keep_ {w w' : World} {lo : Nat} {v : Value} {l : List Oq} (h : Oqs w lo v l) {S : Nat → Prop} (f : Fp S w w') (hS : ∀ k, S k → lo ≤ k) : Oqs w' lo v l := by
  obtain ⟨ao, cap, rfl, h1, h2, h3⟩ := h.ex
  refine ⟨ao, cap, rfl, h1, h2, ?_⟩
  rcases h3 with h3 | ⟨g, o, rfl, hg, hc⟩
  · exact .inl h3
  · exact .inr ⟨g, o, rfl, hg, fun i hi => (hc i hi).keep_ f hS hg⟩

theorem Try.cellsBool : Try.prog.cellsOf 4 = 1 := by kernel_rfl
theorem Try.bytesBool : Try.prog.bytesOf 4 = 1 := by kernel_rfl
theorem Try.cellsOp : Try.prog.cellsOf 32 = 5 := by kernel_rfl

section
variable {H : Type} {enc : TypeId × Value → H} {W : World}

/-- []bool within, opened. -/
theorem open_bools_in {fuel : Nat} {v : Value} {y : DataW H × List MemPlace} (h : DataW.trod enc Try.prog W 0 (fun _ => true) true fuel 30 [v] = some y) :
    ∃ l, Sb W v l ∧ (0 < l.length → ∀ k, v.ownBlock = some k → k < W.heap.size) ∧ ((∀ n ∈ y.1.weights Try.prog 30, n ≤ reachBytes) → l.length ≤ 140737488355328) := by
  rcases open_bools Try.underlying30 Try.underlying4 Try.cellsBool h with ⟨hcs, hx⟩ | ⟨a, len, cap, Bf, hcs, _, hl, hm, hx, hcell⟩
  · simp only [List.cons.injEq, and_true] at hcs
    subst hcs
    exact ⟨[], Sb.nil W, fun h => by simp at h, fun _ => Nat.zero_le _⟩
  · simp only [List.cons.injEq, and_true] at hcs
    subst hcs
    have hlen : ((List.range len).map Bf).length = len := by simp
    have hwt : (∀ n ∈ y.1.weights Try.prog 30, n ≤ reachBytes) → len ≤ 140737488355328 := by
      intro hw
      subst hx
      have := hw (((List.range len).map fun i => (DataW.lit (.bool (Bf i)) : DataW H)).length + ((List.range (cap - len)).map fun j => (DataW.lit (.bool (Bf (len + j))) : DataW H)).length) (by simp [boolRow, DataW.weights, Try.underlying30, Try.bytesBool])
      simp only [List.length_map, List.length_range, reachBytes] at this
      omega
    by_cases h0 : cap = 0
    · exact ⟨(List.range len).map Bf, ⟨some a, cap, by rw [hlen], by rw [hlen]; exact hl, hm, .inl h0⟩, fun h => by rw [hlen] at h; omega, fun h => by rw [hlen]; exact hwt h⟩
    · have hc0 := hcell 0 (by omega)
      have hc0 : W.cell? a = some (.bool (Bf 0)) := by simpa [Addr.add] using hc0
      have hlt := World.block_lt_of_cell? W a hc0
      obtain ⟨g, o, rfl⟩ := spot_none hc0
      refine ⟨(List.range len).map Bf, ⟨some ⟨g, o, none⟩, cap, by rw [hlen], by rw [hlen]; exact hl, hm, .inr ⟨g, o, rfl, hlt, fun j hj => ?_⟩⟩, fun _ k hk => by simp [Value.ownBlock] at hk; simp at hlt; omega, fun h => by rw [hlen]; exact hwt h⟩
      rw [hlen] at hj
      have := hcell j (by omega)
      rw [Addr.add_lit] at this
      rw [this]
      simp
/-- []byte within, opened. -/
theorem open_bytes_in {fuel : Nat} {v : Value} {y : DataW H × List MemPlace} (h : DataW.trod enc Try.prog W 0 (fun _ => true) true fuel 22 [v] = some y) :
    ∃ l, Sl0 W v l ∧ (0 < l.length → ∀ k, v.ownBlock = some k → k < W.heap.size) := by
  rcases open_ints Try.underlying22 Try.underlying5 Try.cellsBy h with ⟨hcs, hx⟩ | ⟨a, len, cap, zs, hcs, _, hl, hm, hz, hx, hcell, hwz⟩
  · simp only [List.cons.injEq, and_true] at hcs
    subst hcs
    exact ⟨[], (Sl.nil W).zero, fun h => by simp at h⟩
  · simp only [List.cons.injEq, and_true] at hcs
    subst hcs
    simp only [if_true] at hz
    have hlen : ((zs.take len).map fun x => UInt8.ofNat x.toNat).length = len := by simp; omega
    by_cases h0 : cap = 0
    · exact ⟨_, ⟨some a, cap, by rw [hlen], by rw [hlen]; exact hl, hm, .inl h0⟩, fun h => by rw [hlen] at h; omega⟩
    · have hc0 := hcell 0 (by omega)
      have hc0 : W.cell? a = some (.int .u8 (zs.getD 0 0)) := by simpa [Addr.add] using hc0
      have hlt := World.block_lt_of_cell? W a hc0
      obtain ⟨g, o, rfl⟩ := spot_none hc0
      have hbd : ∀ j (h : j < zs.length), 0 ≤ zs[j] ∧ zs[j] ≤ 255 := fun j h => bounds_u8 (hwz _ (List.getElem_mem h))
      refine ⟨(zs.take len).map fun x => UInt8.ofNat x.toNat, ⟨some ⟨g, o, none⟩, cap, by rw [hlen], by rw [hlen]; exact hl, hm, .inr ⟨g, o, rfl, hlt, fun j hj => ?_⟩⟩, fun _ k hk => by simp [Value.ownBlock] at hk; simp at hlt; omega⟩
      have hj' : j < zs.length := by simp at hj; omega
      have hc := hcell j hj'
      rw [Addr.add_lit] at hc
      rw [hc]
      have := hbd j hj'
      simp [List.getD, List.getElem?_eq_getElem hj']
      omega
/-- []bool, opened. -/
theorem open_bools_c {v : Value} {d : DataW H} {p : List MemPlace} {base : Nat} (hv : Value.okWide Try.prog W .any base 30 v) (h : DataW.Trod enc Try.prog W 0 (fun _ => true) true 30 v d p) :
    ∃ l, Sb W v l ∧ (0 < l.length → ∀ k, v.ownBlock = some k → k < W.heap.size) := by
  obtain ⟨a0, len, cap, rfl⟩ := okWide_slice Try.underlying30 hv
  obtain ⟨fuel, hf⟩ := h
  have hf : DataW.trod enc Try.prog W 0 (fun _ => true) true fuel 30 [.slice a0 len cap] = some (d, p) := by simpa [Value.cells] using hf
  obtain ⟨l, h1, h2, _⟩ := open_bools_in hf
  exact ⟨l, h1, h2⟩

theorem op_of {n : Nat} {cs : List Value} {y : DataW H × List MemPlace} (hlen : cs.length = 5) (h : DataW.trod enc Try.prog W 0 (fun _ => true) true n 32 cs = some y) :
    ∃ x : Oq, cs = [.int .i64 x.what, .int .i64 x.at_, x.bv, .int .i64 x.n, x.kv] ∧ Sl0 W x.bv x.b ∧ Sb W x.kv x.keep ∧ (0 < x.b.length → ∀ k, x.bv.ownBlock = some k → k < W.heap.size) ∧ (0 < x.keep.length → ∀ k, x.kv.ownBlock = some k → k < W.heap.size) ∧
      (-9223372036854775808 ≤ x.at_ ∧ x.at_ ≤ 9223372036854775807) ∧ (-9223372036854775808 ≤ x.n ∧ x.n ≤ 9223372036854775807) ∧ (-9223372036854775808 ≤ x.what ∧ x.what ≤ 9223372036854775807) ∧ ((∀ n ∈ y.1.weights Try.prog 32, n ≤ reachBytes) → x.keep.length ≤ 140737488355328) := by
  obtain ⟨xs, k, hk, hxy, _, hxl, hf⟩ := DataW.trod_struct Try.underlying32 h
  match xs, hxl, cs, hlen with
  | [y0, y1, y2, y3, y4], _, [v0, v1, v2, v3, v4], _ =>
    have g0 := hf 0 _ rfl
    have g1 := hf 1 _ rfl
    have g2 := hf 2 _ rfl
    have g3 := hf 3 _ rfl
    have g4 := hf 4 _ rfl
    have k0 : Try.prog.cellsOf 3 = 1 := by kernel_rfl
    have k2 : Try.prog.cellsOf 22 = 1 := by kernel_rfl
    have k4 : Try.prog.cellsOf 30 = 1 := by kernel_rfl
    simp [k0] at g0
    simp [k0] at g1
    simp [k2] at g2
    simp [k0] at g3
    simp [k4] at g4
    obtain ⟨z0, e0, _, w0⟩ := DataW.trod_int Try.underlying3 g0
    obtain ⟨z1, e1, _, w1⟩ := DataW.trod_int Try.underlying3 g1
    obtain ⟨z3, e3, _, w3⟩ := DataW.trod_int Try.underlying3 g3
    obtain ⟨b, h2, h2'⟩ := open_bytes_in g2
    obtain ⟨kp, h4, h4', h5⟩ := open_bools_in g4
    simp only [List.cons.injEq, and_true] at e0 e1 e3
    subst e0 e1 e3
    refine ⟨⟨z0, z1, v2, b, z3, v4, kp⟩, rfl, h2, h4, h2', h4', bounds_i64 w1, bounds_i64 w3, bounds_i64 w0, fun hw => h5 fun n hn => hw n ?_⟩
    rw [hxy]
    simp only [DataW.weights, Try.underlying32, List.map_cons, List.map_nil, DataW.weightsEach, List.mem_append]
    simp [hn]

/-- []Op, opened. -/
theorem open_ops {v : Value} {d : DataW H} {p : List MemPlace} {base : Nat} (hv : Value.okWide Try.prog W .any base 23 v) (h : DataW.Trod enc Try.prog W 0 (fun _ => true) true 23 v d p) (hsz : ∀ n ∈ d.weights Try.prog 23, n ≤ reachBytes) :
    ∃ l, Oqs W W.heap.size v l := by
  obtain ⟨a0, len, cap, rfl⟩ := okWide_slice Try.underlying23 hv
  obtain ⟨fuel, hf⟩ := h
  have hf : DataW.trod enc Try.prog W 0 (fun _ => true) true fuel 23 [.slice a0 len cap] = some (d, p) := by simpa [Value.cells] using hf
  rcases open_slice Try.underlying23 hf with ⟨hcs, hx⟩ | ⟨a, len', cap', m, n, D, Pl, hcs, _, hl, hm, hmm, hx, hel⟩
  · simp only [List.cons.injEq, Value.slice.injEq, and_true] at hcs
    obtain ⟨rfl, rfl, rfl⟩ := hcs
    exact ⟨[], ⟨none, 0, rfl, Nat.le_refl _, Nat.zero_le _, .inl rfl⟩⟩
  · simp only [List.cons.injEq, Value.slice.injEq, and_true] at hcs
    obtain ⟨rfl, rfl, rfl⟩ := hcs
    simp only [if_true] at hmm
    subst hmm
    have hwD : ∀ i, i < len → ∀ n ∈ (D i).weights Try.prog 32, n ≤ reachBytes := by
      intro i hi n hn
      refine hsz n ?_
      simp only [Prod.mk.injEq] at hx
      rw [hx.1]
      have hall : ∀ (xs : List Nat), i ∈ xs → n ∈ DataW.weightsAll Try.prog 32 (xs.map D) := by
        intro xs
        induction xs with
        | nil => intro h; cases h
        | cons a r ih =>
          intro h
          simp only [List.map_cons, DataW.weightsAll, List.mem_append]
          rcases List.mem_cons.1 h with rfl | h
          · exact .inl hn
          · exact .inr (ih h)
      simp only [DataW.weights, Try.underlying23]
      exact List.mem_cons_of_mem _ (List.mem_append_left _ (hall _ (List.mem_range.2 hi)))
    have each : ∀ i, i < len → ∃ x : Oq, (∀ j (hj : j < 5), W.cell? (a.add (i * 5 + j)) = [Value.int .i64 x.what, .int .i64 x.at_, x.bv, .int .i64 x.n, x.kv][j]?) ∧ Sl0 W x.bv x.b ∧ Sb W x.kv x.keep ∧ (0 < x.b.length → ∀ k, x.bv.ownBlock = some k → k < W.heap.size) ∧ (0 < x.keep.length → ∀ k, x.kv.ownBlock = some k → k < W.heap.size) ∧
      (-9223372036854775808 ≤ x.at_ ∧ x.at_ ≤ 9223372036854775807) ∧ (-9223372036854775808 ≤ x.n ∧ x.n ≤ 9223372036854775807) ∧ (-9223372036854775808 ≤ x.what ∧ x.what ≤ 9223372036854775807) ∧ x.keep.length ≤ 140737488355328 := by
      intro i hi
      obtain ⟨cs', h1, h2⟩ := hel i (by omega)
      rw [Try.cellsOp] at h1
      obtain ⟨_, hlen, hcell⟩ := World.cells?_some h1
      obtain ⟨x, rfl, h3, h4, h5, h6, h7, h8, h9, h10⟩ := op_of hlen h2
      refine ⟨x, fun j hj => ?_, h3, h4, h5, h6, h7, h8, h9, h10 (hwD i hi)⟩
      have := hcell j (by omega)
      rw [add_add] at this
      exact this
    obtain ⟨f, hfi⟩ : ∃ f : Nat → Oq, ∀ i, i < len → (∀ j (hj : j < 5), W.cell? (a.add (i * 5 + j)) = [Value.int .i64 (f i).what, .int .i64 (f i).at_, (f i).bv, .int .i64 (f i).n, (f i).kv][j]?) ∧ Sl0 W (f i).bv (f i).b ∧ Sb W (f i).kv (f i).keep ∧ (0 < (f i).b.length → ∀ k, (f i).bv.ownBlock = some k → k < W.heap.size) ∧ (0 < (f i).keep.length → ∀ k, (f i).kv.ownBlock = some k → k < W.heap.size) ∧
      (-9223372036854775808 ≤ (f i).at_ ∧ (f i).at_ ≤ 9223372036854775807) ∧ (-9223372036854775808 ≤ (f i).n ∧ (f i).n ≤ 9223372036854775807) ∧ (-9223372036854775808 ≤ (f i).what ∧ (f i).what ≤ 9223372036854775807) ∧ (f i).keep.length ≤ 140737488355328 := by
      haveI : Inhabited Oq := ⟨⟨0, 0, .slice none 0 0, [], 0, .slice none 0 0, []⟩⟩
      exact choose_lt each
    have hlen : ((List.range len).map f).length = len := by simp
    by_cases h0 : len = 0
    · subst h0
      by_cases hm0 : m = 0
      · exact ⟨[], ⟨some a, m, rfl, by simp, hm, .inl hm0⟩⟩
      · obtain ⟨cs', h1, h2⟩ := hel 0 (by omega)
        rw [Try.cellsOp] at h1
        obtain ⟨_, hl5, hcell⟩ := World.cells?_some h1
        obtain ⟨x, rfl, _⟩ := op_of hl5 h2
        have hc0 := hcell 0 (by omega)
        have hc0 : W.cell? a = some (.int .i64 x.what) := by simpa [Addr.add] using hc0
        have hlt := World.block_lt_of_cell? W a hc0
        obtain ⟨g, o, rfl⟩ := spot_none hc0
        exact ⟨[], ⟨some ⟨g, o, none⟩, m, rfl, by simp, hm, .inr ⟨g, o, rfl, hlt, fun i hi => by simp at hi⟩⟩⟩
    · have hc0 := (hfi 0 (by omega)).1 0 (by omega)
      have hc0 : W.cell? a = some (.int .i64 (f 0).what) := by simpa [Addr.add] using hc0
      have hlt := World.block_lt_of_cell? W a hc0
      obtain ⟨g, o, rfl⟩ := spot_none hc0
      refine ⟨(List.range len).map f, ⟨some ⟨g, o, none⟩, m, by rw [hlen], by rw [hlen]; exact hl, hm, .inr ⟨g, o, rfl, hlt, fun i hi => ?_⟩⟩⟩
      rw [hlen] at hi
      obtain ⟨k1, k2, k3, k4, k5, k6, k7, k8, k9⟩ := hfi i (by omega)
      simp only [List.getElem_map, List.getElem_range]
      have q0 := k1 0 (by omega)
      have q1 := k1 1 (by omega)
      have q2 := k1 2 (by omega)
      have q3 := k1 3 (by omega)
      have q4 := k1 4 (by omega)
      rw [Addr.add_lit] at q0 q1 q2 q3 q4
      exact ⟨by simpa using q0, by simpa [Nat.add_assoc] using q1, by simpa [Nat.add_assoc] using q2, by simpa [Nat.add_assoc] using q3, by simpa [Nat.add_assoc] using q4, k2, k3, k4, k5, k6, k7, k8, k9⟩
end
end Go.Proofs.Ytiafndcpggngoaa
