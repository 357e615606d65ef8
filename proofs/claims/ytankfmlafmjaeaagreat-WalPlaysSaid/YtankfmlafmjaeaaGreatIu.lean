/- The arguments of the laws, on: bools, and lists of calls. -/
import Derived.Test.YtankfmlafmjaeaaGreatIb
import Derived.Test.YtankfmlafmjaeaaGreatSx
import Derived.Deep.Grids
namespace Go.Proofs.YtankfmlafmjaeaaGreat
set_option maxRecDepth 20000
open Go.ChangeShapes Go.WideShapes Go.ChangeAt Go.RowKit Pm Go.Deep
open Go.WideMaps Go.WideElems
open Go.ChangeMaps (setBlock shut_map_nil open_string shut_string)

/-- A call: what, at, bytes, number, bools. -/
structure Oq where
  what : Int
  bv : Value
  b : Bs
  n : Int
  kv : Value
  keep : List Bool

structure OqAt (w : World) (lo g o : Nat) (x : Oq) : Prop where
  c0 : w.cell? ⟨g, o, none⟩ = some (.int .i64 x.what)
  c1 : w.cell? ⟨g, o + 1, none⟩ = some x.bv
  c2 : w.cell? ⟨g, o + 2, none⟩ = some (.int .i64 x.n)
  c3 : w.cell? ⟨g, o + 3, none⟩ = some x.kv
  sb : Sl0 w x.bv x.b
  sk : Sb w x.kv x.keep
  lb : 0 < x.b.length → ∀ k, x.bv.ownBlock = some k → k < lo
  lk : 0 < x.keep.length → ∀ k, x.kv.ownBlock = some k → k < lo
  hn : -9223372036854775808 ≤ x.n ∧ x.n ≤ 9223372036854775807
  hw : -9223372036854775808 ≤ x.what ∧ x.what ≤ 9223372036854775807
  kl : x.keep.length ≤ 140737488355328

/-- A slice of calls. -/
structure Oqs (w : World) (lo : Nat) (v : Value) (l : List Oq) : Prop where
  ex : ∃ ao cap, v = .slice ao l.length cap ∧ l.length ≤ cap ∧ cap ≤ maxLen ∧
    (cap = 0 ∨ ∃ g o, ao = some ⟨g, o, none⟩ ∧ g < lo ∧ ∀ i (h : i < l.length), OqAt w lo g (o + i * 4) l[i])

theorem OqAt.keep_ {w w' : World} {lo g o : Nat} {x : Oq} (h : OqAt w lo g o x) {S : Nat → Prop} (f : Fp S w w') (hS : ∀ k, S k → lo ≤ k) (hg : g < lo) : OqAt w' lo g o x := by
  have hn : ¬ S g := fun h => by have := hS g h; omega
  exact ⟨f.cell h.c0 hn, f.cell h.c1 hn, f.cell h.c2 hn, f.cell h.c3 hn, h.sb.keep f (fun h0 k hk hs => by have := h.lb h0 k hk; have := hS k hs; omega),
    h.sk.keep f (fun h0 k hk hs => by have := h.lk h0 k hk; have := hS k hs; omega), h.lb, h.lk, h.hn, h.hw, h.kl⟩
theorem Oqs.keep_ {w w' : World} {lo : Nat} {v : Value} {l : List Oq} (h : Oqs w lo v l) {S : Nat → Prop} (f : Fp S w w') (hS : ∀ k, S k → lo ≤ k) : Oqs w' lo v l := by
  obtain ⟨ao, cap, rfl, h1, h2, h3⟩ := h.ex
  refine ⟨ao, cap, rfl, h1, h2, ?_⟩
  rcases h3 with h3 | ⟨g, o, rfl, hg, hc⟩
  · exact .inl h3
  · exact .inr ⟨g, o, rfl, hg, fun i hi => (hc i hi).keep_ f hS hg⟩

theorem Tryz.cellsOp : Tryz.prog.cellsOf 42 = 4 := by kernel_rfl

section
variable {H : Type} {enc : TypeId × Value → H} {W : World}

theorem op_of {n : Nat} {cs : List Value} {y : DataW H × List MemPlace} (hlen : cs.length = 4) (h : DataW.trod enc Tryz.prog W 0 (fun _ => true) true n 42 cs = some y) :
    ∃ x : Oq, cs = [.int .i64 x.what, x.bv, .int .i64 x.n, x.kv] ∧ Sl0 W x.bv x.b ∧ Sb W x.kv x.keep ∧ (0 < x.b.length → ∀ k, x.bv.ownBlock = some k → k < W.heap.size) ∧ (0 < x.keep.length → ∀ k, x.kv.ownBlock = some k → k < W.heap.size) ∧
      (-9223372036854775808 ≤ x.n ∧ x.n ≤ 9223372036854775807) ∧ (-9223372036854775808 ≤ x.what ∧ x.what ≤ 9223372036854775807) ∧ ((∀ n ∈ y.1.weights Tryz.prog 42, n ≤ reachBytes) → x.keep.length ≤ 140737488355328) := by
  obtain ⟨xs, k, hk, hxy, _, hxl, hf⟩ := DataW.trod_struct Tryz.underlying42 h
  match xs, hxl, cs, hlen with
  | [y0, y1, y2, y3], _, [v0, v1, v2, v3], _ =>
    have g0 := hf 0 _ rfl
    have g1 := hf 1 _ rfl
    have g2 := hf 2 _ rfl
    have g3 := hf 3 _ rfl
    have k0 : Tryz.prog.cellsOf 3 = 1 := by kernel_rfl
    have k2 : Tryz.prog.cellsOf 22 = 1 := by kernel_rfl
    have k4 : Tryz.prog.cellsOf 38 = 1 := by kernel_rfl
    simp [k0] at g0
    simp [k2] at g1
    simp [k0] at g2
    simp [k4] at g3
    obtain ⟨z0, e0, _, w0⟩ := DataW.trod_int Tryz.underlying3 g0
    obtain ⟨z3, e3, _, w3⟩ := DataW.trod_int Tryz.underlying3 g2
    obtain ⟨b, h2, h2'⟩ := open_bytes_in g1
    obtain ⟨kp, h4, h4', h5⟩ := open_bools_in g3
    simp only [List.cons.injEq, and_true] at e0 e3
    subst e0 e3
    refine ⟨⟨z0, v1, b, z3, v3, kp⟩, rfl, h2, h4, h2', h4', bounds_i64 w3, bounds_i64 w0, fun hw => h5 fun n hn => hw n ?_⟩
    rw [hxy]
    simp only [DataW.weights, Tryz.underlying42, List.map_cons, List.map_nil, DataW.weightsEach, List.mem_append]
    simp [hn]

/-- []Op, opened. -/
theorem open_ops {v : Value} {d : DataW H} {p : List MemPlace} {base : Nat} (hv : Value.okWide Tryz.prog W .any base 23 v) (h : DataW.Trod enc Tryz.prog W 0 (fun _ => true) true 23 v d p) (hsz : ∀ n ∈ d.weights Tryz.prog 23, n ≤ reachBytes) :
    ∃ l, Oqs W W.heap.size v l := by
  obtain ⟨a0, len, cap, rfl⟩ := okWide_slice Tryz.underlying23 hv
  obtain ⟨fuel, hf⟩ := h
  have hf : DataW.trod enc Tryz.prog W 0 (fun _ => true) true fuel 23 [.slice a0 len cap] = some (d, p) := by simpa [Value.cells] using hf
  rcases open_slice Tryz.underlying23 hf with ⟨hcs, hx⟩ | ⟨a, len', cap', m, n, D, Pl, hcs, _, hl, hm, hmm, hx, hel⟩
  · simp only [List.cons.injEq, Value.slice.injEq, and_true] at hcs
    obtain ⟨rfl, rfl, rfl⟩ := hcs
    exact ⟨[], ⟨none, 0, rfl, Nat.le_refl _, Nat.zero_le _, .inl rfl⟩⟩
  · simp only [List.cons.injEq, Value.slice.injEq, and_true] at hcs
    obtain ⟨rfl, rfl, rfl⟩ := hcs
    simp only [if_true] at hmm
    subst hmm
    have hwD : ∀ i, i < len → ∀ n ∈ (D i).weights Tryz.prog 42, n ≤ reachBytes := by
      intro i hi n hn
      refine hsz n ?_
      simp only [Prod.mk.injEq] at hx
      rw [hx.1]
      have hall : ∀ (xs : List Nat), i ∈ xs → n ∈ DataW.weightsAll Tryz.prog 42 (xs.map D) := by
        intro xs
        induction xs with
        | nil => intro h; cases h
        | cons a r ih =>
          intro h
          simp only [List.map_cons, DataW.weightsAll, List.mem_append]
          rcases List.mem_cons.1 h with rfl | h
          · exact .inl hn
          · exact .inr (ih h)
      simp only [DataW.weights, Tryz.underlying23]
      exact List.mem_cons_of_mem _ (List.mem_append_left _ (hall _ (List.mem_range.2 hi)))
    have each : ∀ i, i < len → ∃ x : Oq, (∀ j (hj : j < 4), W.cell? (a.add (i * 4 + j)) = [Value.int .i64 x.what, x.bv, .int .i64 x.n, x.kv][j]?) ∧ Sl0 W x.bv x.b ∧ Sb W x.kv x.keep ∧ (0 < x.b.length → ∀ k, x.bv.ownBlock = some k → k < W.heap.size) ∧ (0 < x.keep.length → ∀ k, x.kv.ownBlock = some k → k < W.heap.size) ∧
      (-9223372036854775808 ≤ x.n ∧ x.n ≤ 9223372036854775807) ∧ (-9223372036854775808 ≤ x.what ∧ x.what ≤ 9223372036854775807) ∧ x.keep.length ≤ 140737488355328 := by
      intro i hi
      obtain ⟨cs', h1, h2⟩ := hel i (by omega)
      rw [Tryz.cellsOp] at h1
      obtain ⟨_, hlen, hcell⟩ := World.cells?_some h1
      obtain ⟨x, rfl, h3, h4, h5, h6, h7, h8, h9⟩ := op_of hlen h2
      refine ⟨x, fun j hj => ?_, h3, h4, h5, h6, h7, h8, h9 (hwD i hi)⟩
      have := hcell j (by omega)
      rw [add_add] at this
      exact this
    obtain ⟨f, hfi⟩ : ∃ f : Nat → Oq, ∀ i, i < len → (∀ j (hj : j < 4), W.cell? (a.add (i * 4 + j)) = [Value.int .i64 (f i).what, (f i).bv, .int .i64 (f i).n, (f i).kv][j]?) ∧ Sl0 W (f i).bv (f i).b ∧ Sb W (f i).kv (f i).keep ∧ (0 < (f i).b.length → ∀ k, (f i).bv.ownBlock = some k → k < W.heap.size) ∧ (0 < (f i).keep.length → ∀ k, (f i).kv.ownBlock = some k → k < W.heap.size) ∧
      (-9223372036854775808 ≤ (f i).n ∧ (f i).n ≤ 9223372036854775807) ∧ (-9223372036854775808 ≤ (f i).what ∧ (f i).what ≤ 9223372036854775807) ∧ (f i).keep.length ≤ 140737488355328 := by
      haveI : Inhabited Oq := ⟨⟨0, .slice none 0 0, [], 0, .slice none 0 0, []⟩⟩
      exact choose_lt each
    have hlen : ((List.range len).map f).length = len := by simp
    by_cases h0 : len = 0
    · subst h0
      by_cases hm0 : m = 0
      · exact ⟨[], ⟨some a, m, rfl, by simp, hm, .inl hm0⟩⟩
      · obtain ⟨cs', h1, h2⟩ := hel 0 (by omega)
        rw [Tryz.cellsOp] at h1
        obtain ⟨_, hl5, hcell⟩ := World.cells?_some h1
        obtain ⟨x, rfl, _⟩ := op_of hl5 h2
        have hc0 := hcell 0 (by omega)
        have hc0 : W.cell? a = some (.int .i64 x.what) := by simpa [Addr.add] using hc0
        have hlt := World.block_lt_of_cell? W a hc0
        obtain ⟨g, o, rfl⟩ := spot_none hc0
        exact ⟨[], ⟨some ⟨g, o, none⟩, m, rfl, by simp, hm, .inr ⟨g, o, rfl, hlt, fun i hi => by simp at hi⟩⟩⟩
    · have hc0 := (hfi 0 (by omega)).1 0 (by omega)
      have hc0 : W.cell? a = some (.int .i64 (f 0).what) := by simpa [Addr.add] using hc0
      have hlt := World.block_lt_of_cell? W a hc0
      obtain ⟨g, o, rfl⟩ := spot_none hc0
      refine ⟨(List.range len).map f, ⟨some ⟨g, o, none⟩, m, by rw [hlen], by rw [hlen]; exact hl, hm, .inr ⟨g, o, rfl, hlt, fun i hi => ?_⟩⟩⟩
      rw [hlen] at hi
      obtain ⟨k1, k2, k3, k4, k5, k6, k7, k8⟩ := hfi i (by omega)
      simp only [List.getElem_map, List.getElem_range]
      have q0 := k1 0 (by omega)
      have q1 := k1 1 (by omega)
      have q2 := k1 2 (by omega)
      have q3 := k1 3 (by omega)
      rw [Addr.add_lit] at q0 q1 q2 q3
      exact ⟨by simpa using q0, by simpa [Nat.add_assoc] using q1, by simpa [Nat.add_assoc] using q2, by simpa [Nat.add_assoc] using q3, k2, k3, k4, k5, k6, k7, k8⟩
end
end Go.Proofs.YtankfmlafmjaeaaGreat
