/- A text of this proof. -/
import Derived.Test.YthaepjeikicigaaDoorZQ
/- The arguments of the laws, on: texts, operations. -/
namespace Go.Proofs.YthaepjeikicigaaDoor
set_option maxRecDepth 20000
set_option linter.unusedVariables false
set_option linter.unusedSimpArgs false
open Go.ChangeShapes Go.WideShapes Go.ChangeAt Go.RowKit Pm Go.Deep
open Go.WideMaps Go.WideElems
open Go.ChangeMaps (setBlock shut_map_nil open_string shut_string)

/-- A slice that reads as texts. -/
structure Tx (w : World) (v : Value) (l : List Bs) : Prop where
  ex : ∃ ao cap, v = .slice ao l.length cap ∧ (l = [] ∨ ∃ g o, ao = some ⟨g, o, none⟩ ∧ ∀ i (h : i < l.length), w.cell? ⟨g, o + i, none⟩ = some (.string (B l[i])))
theorem Tx.non {w w' : World} {v : Value} {l : List Bs} (h : Tx w v l) (f : Fp Non w w') : Tx w' v l := by
  obtain ⟨ao, cap, rfl, h3⟩ := h.ex
  refine ⟨ao, cap, rfl, ?_⟩
  rcases h3 with h3 | ⟨g, o, rfl, hc⟩
  · exact .inl h3
  · exact .inr ⟨g, o, rfl, fun i hi => f.cell (hc i hi) (fun h => h)⟩
theorem Tx.shape {w : World} {v : Value} {l : List Bs} (h : Tx w v l) : ∃ ao cap, v = .slice ao l.length cap := by
  obtain ⟨ao, cap, rfl, _⟩ := h.ex; exact ⟨ao, cap, rfl⟩
theorem Tx.at {w : World} {v : Value} {l : List Bs} (h : Tx w v l) (h0 : 0 < l.length) : ∃ g o cap, v = .slice (some ⟨g, o, none⟩) l.length cap ∧ ∀ i (h : i < l.length), w.cell? ⟨g, o + i, none⟩ = some (.string (B l[i])) := by
  obtain ⟨ao, cap, rfl, h3⟩ := h.ex
  rcases h3 with h3 | ⟨g, o, rfl, hc⟩
  · subst h3; simp at h0
  · exact ⟨g, o, cap, rfl, hc⟩

/-- An operation at a place. -/
structure OpAt (w : World) (g o : Nat) (x : Opn) : Prop where
  c0 : w.cell? ⟨g, o, none⟩ = some (.int .i64 x.kind)
  c1 : w.cell? ⟨g, o + 1, none⟩ = some (strV x.path)
  c2 : w.cell? ⟨g, o + 2, none⟩ = some (strV x.data)
  c3 : w.cell? ⟨g, o + 3, none⟩ = some (.int .i64 x.ver)
  c4 : w.cell? ⟨g, o + 4, none⟩ = some (.int .i64 x.own)
  c5 : w.cell? ⟨g, o + 5, none⟩ = some (.bool x.turns)
theorem OpAt.keep {w w' : World} {g o : Nat} {n : Opn} (h : OpAt w g o n) {S : Nat → Prop} (f : Fp S w w') (hS : ¬ S g) : OpAt w' g o n :=
  ⟨f.cell h.c0 hS, f.cell h.c1 hS, f.cell h.c2 hS, f.cell h.c3 hS, f.cell h.c4 hS, f.cell h.c5 hS⟩
structure Ops (w : World) (v : Value) (l : List Opn) : Prop where
  ex : ∃ ao cap, v = .slice ao l.length cap ∧ (l = [] ∨ ∃ g o, ao = some ⟨g, o, none⟩ ∧ ∀ i (h : i < l.length), OpAt w g (o + i * 6) l[i])
theorem Ops.non {w w' : World} {v : Value} {l : List Opn} (h : Ops w v l) (f : Fp Non w w') : Ops w' v l := by
  obtain ⟨ao, cap, rfl, h3⟩ := h.ex
  refine ⟨ao, cap, rfl, ?_⟩
  rcases h3 with h3 | ⟨g, o, rfl, hc⟩
  · exact .inl h3
  · exact .inr ⟨g, o, rfl, fun i hi => (hc i hi).keep f (fun h => h)⟩
theorem Ops.shape {w : World} {v : Value} {l : List Opn} (h : Ops w v l) : ∃ ao cap, v = .slice ao l.length cap := by
  obtain ⟨ao, cap, rfl, _⟩ := h.ex; exact ⟨ao, cap, rfl⟩
theorem Ops.at {w : World} {v : Value} {l : List Opn} (h : Ops w v l) (h0 : 0 < l.length) : ∃ g o cap, v = .slice (some ⟨g, o, none⟩) l.length cap ∧ ∀ i (h : i < l.length), OpAt w g (o + i * 6) l[i] := by
  obtain ⟨ao, cap, rfl, h3⟩ := h.ex
  rcases h3 with h3 | ⟨g, o, rfl, hc⟩
  · subst h3; simp at h0
  · exact ⟨g, o, cap, rfl, hc⟩

section
variable {H : Type} {enc : TypeId × Value → H} {W : World}

/-- []string, opened. -/
theorem open_strings {v : Value} {d : DataW H} {p : List MemPlace} {base : Nat} (hv : Value.okWide Tryd.prog W .any base 29 v) (h : DataW.Trod enc Tryd.prog W 0 (fun _ => true) true 29 v d p) (hsz : ∀ n ∈ d.weights Tryd.prog 29, n ≤ reachBytes) :
    ∃ l, Tx W v l ∧ True ∧ True := by
  obtain ⟨a0, len, cap, rfl⟩ := okWide_slice Tryd.underlying29 hv
  obtain ⟨fuel, hf⟩ := h
  have hf : DataW.trod enc Tryd.prog W 0 (fun _ => true) true fuel 29 [.slice a0 len cap] = some (d, p) := by simpa [Value.cells] using hf
  rcases open_strs Tryd.underlying29 Tryd.underlying9 Tryd.cellsStr' hf with ⟨hcs, hx⟩ | ⟨a, len', cap', m, Sx, hcs, _, hl, hm, hmm, hx, hcell⟩
  · simp only [List.cons.injEq, Value.slice.injEq, and_true] at hcs
    obtain ⟨rfl, rfl, rfl⟩ := hcs
    exact ⟨[], ⟨none, 0, rfl, .inl rfl⟩, trivial, trivial⟩
  · simp only [List.cons.injEq, Value.slice.injEq, and_true] at hcs
    obtain ⟨rfl, rfl, rfl⟩ := hcs
    simp only [if_true] at hmm
    subst hmm
    have hlen : ((List.range len).map fun i => (Sx i).data.toList).length = len := by simp
    by_cases h0 : len = 0
    · subst h0
      exact ⟨[], ⟨some a, m, rfl, .inl rfl⟩, trivial, trivial⟩
    · have hc0 := (hcell 0 (by omega)).1
      have hc0 : W.cell? a = some (.string (Sx 0)) := by simpa [Addr.add] using hc0
      obtain ⟨g, o, rfl⟩ := spot_none hc0
      refine ⟨(List.range len).map fun i => (Sx i).data.toList, ⟨some ⟨g, o, none⟩, m, by rw [hlen], .inr ⟨g, o, rfl, fun j hj => ?_⟩⟩, trivial, trivial⟩
      rw [hlen] at hj
      have := (hcell j (by omega)).1
      rw [Addr.add_lit] at this
      rw [this]
      simp only [List.getElem_map, List.getElem_range]
      rw [← B_of]

theorem op_of {n : Nat} {cs : List Value} {y : DataW H × List MemPlace} (hlen : cs.length = 6) (h : DataW.trod enc Tryd.prog W 0 (fun _ => true) true n 24 cs = some y) :
    ∃ x : Opn, cs = [.int .i64 x.kind, strV x.path, strV x.data, .int .i64 x.ver, .int .i64 x.own, .bool x.turns] := by
  obtain ⟨xs, k, hk, hxy, _, hxl, hf⟩ := DataW.trod_struct Tryd.underlying24 h
  match xs, hxl, cs, hlen with
  | [y0, y1, y2, y3, y4, y5], _, [v0, v1, v2, v3, v4, v5], _ =>
    have g0 := hf 0 _ rfl
    have g1 := hf 1 _ rfl
    have g2 := hf 2 _ rfl
    have g3 := hf 3 _ rfl
    have g4 := hf 4 _ rfl
    have g5 := hf 5 _ rfl
    simp [Tryd.cellsInt] at g0
    simp [Tryd.cellsStr'] at g1
    simp [Tryd.cellsStr'] at g2
    simp [Tryd.cellsI64] at g3
    simp [Tryd.cellsI64] at g4
    simp [Tryd.cellsBoo] at g5
    obtain ⟨z0, e0, _, _⟩ := DataW.trod_int Tryd.underlying3 g0
    obtain ⟨z1, e1, _, h1⟩ := DataW.trod_string Tryd.underlying9 g1
    obtain ⟨z2, e2, _, h2⟩ := DataW.trod_string Tryd.underlying9 g2
    obtain ⟨z3, e3, _, _⟩ := DataW.trod_int Tryd.underlying2 g3
    obtain ⟨z4, e4, _, _⟩ := DataW.trod_int Tryd.underlying2 g4
    obtain ⟨z5, e5, _⟩ := DataW.trod_bool Tryd.underlying4 g5
    simp only [List.cons.injEq, and_true] at e0 e1 e2 e3 e4 e5
    subst e0 e1 e2 e3 e4 e5
    refine ⟨⟨z0, z1.data.toList, z2.data.toList, z3, z4, z5⟩, ?_⟩
    unfold strV; rw [← B_of, ← B_of]

/-- []Op, opened. -/
theorem open_ops {v : Value} {d : DataW H} {p : List MemPlace} {base : Nat} (hv : Value.okWide Tryd.prog W .any base 44 v) (h : DataW.Trod enc Tryd.prog W 0 (fun _ => true) true 44 v d p) (hsz : ∀ n ∈ d.weights Tryd.prog 44, n ≤ reachBytes) :
    ∃ l, Ops W v l ∧ True ∧ True := by
  obtain ⟨a0, len, cap, rfl⟩ := okWide_slice Tryd.underlying44 hv
  obtain ⟨fuel, hf⟩ := h
  have hf : DataW.trod enc Tryd.prog W 0 (fun _ => true) true fuel 44 [.slice a0 len cap] = some (d, p) := by simpa [Value.cells] using hf
  rcases open_slice Tryd.underlying44 hf with ⟨hcs, hx⟩ | ⟨a, len', cap', m, n, D, Pl, hcs, _, hl, hm, hmm, hx, hel⟩
  · simp only [List.cons.injEq, Value.slice.injEq, and_true] at hcs
    obtain ⟨rfl, rfl, rfl⟩ := hcs
    exact ⟨[], ⟨none, 0, rfl, .inl rfl⟩, trivial, trivial⟩
  · simp only [List.cons.injEq, Value.slice.injEq, and_true] at hcs
    obtain ⟨rfl, rfl, rfl⟩ := hcs
    simp only [if_true] at hmm
    subst hmm
    have each : ∀ i, i < len → ∃ x : Opn, ∀ j (hj : j < 6), W.cell? (a.add (i * 6 + j)) = ([.int .i64 x.kind, strV x.path, strV x.data, .int .i64 x.ver, .int .i64 x.own, .bool x.turns] : List Value)[j]? := by
      intro i hi
      obtain ⟨cs', h1, h2⟩ := hel i (by omega)
      rw [Tryd.cellsOp] at h1
      obtain ⟨_, hlen, hcell⟩ := World.cells?_some h1
      obtain ⟨x, rfl⟩ := op_of hlen h2
      refine ⟨x, fun j hj => ?_⟩
      have := hcell j (by omega)
      rw [add_add] at this
      exact this
    obtain ⟨f, hfi⟩ : ∃ f : Nat → Opn, ∀ i, i < len → ∀ j (hj : j < 6), W.cell? (a.add (i * 6 + j)) = ([.int .i64 (f i).kind, strV (f i).path, strV (f i).data, .int .i64 (f i).ver, .int .i64 (f i).own, .bool (f i).turns] : List Value)[j]? := by
      haveI : Inhabited Opn := ⟨⟨0, [], [], 0, 0, false⟩⟩
      exact choose_lt each
    have hlen : ((List.range len).map f).length = len := by simp
    by_cases h0 : len = 0
    · subst h0
      exact ⟨[], ⟨some a, m, rfl, .inl rfl⟩, trivial, trivial⟩
    · have hc0 := hfi 0 (by omega) 0 (by omega)
      have hc0 : W.cell? a = some (.int .i64 (f 0).kind) := by simpa [Addr.add, strV] using hc0
      obtain ⟨g, o, rfl⟩ := spot_none hc0
      refine ⟨(List.range len).map f, ⟨some ⟨g, o, none⟩, m, by rw [hlen], .inr ⟨g, o, rfl, fun i hi => ?_⟩⟩, trivial, trivial⟩
      rw [hlen] at hi
      have k1 := hfi i (by omega)
      simp only [List.getElem_map, List.getElem_range]
      have q0 := k1 0 (by omega)
      have q1 := k1 1 (by omega)
      have q2 := k1 2 (by omega)
      have q3 := k1 3 (by omega)
      have q4 := k1 4 (by omega)
      have q5 := k1 5 (by omega)
      rw [Addr.add_lit] at q0 q1 q2 q3 q4 q5
      exact ⟨by simpa using q0, by simpa [Nat.add_assoc] using q1, by simpa [Nat.add_assoc] using q2, by simpa [Nat.add_assoc] using q3, by simpa [Nat.add_assoc] using q4, by simpa [Nat.add_assoc] using q5⟩
end
end Go.Proofs.YthaepjeikicigaaDoor
