/- The arguments of the laws of layer 9: watches, watched, operations, texts, bytes (gen_ze.py). -/
import Derived.Test.YtjdpbieifcjmiaaZd
import Derived.ProofKit
import Derived.OpenShut
import Derived.Deep.Strs
import Derived.Deep.Grids
import Derived.ChangeSlices
namespace Go.Proofs.Ytjdpbieifcjmiaa
set_option maxRecDepth 20000
set_option linter.unusedVariables false
set_option linter.unusedSimpArgs false
open Go.ChangeShapes Go.WideShapes Go.ChangeAt Go.RowKit Pm Go.Deep
open Go.WideMaps Go.WideElems
open Go.ChangeMaps (setBlock shut_map_nil open_string shut_string)

theorem spot_none {w : World} {a : Addr} {v : Value} (h : w.cell? a = some v) : ∃ g o, a = ⟨g, o, none⟩ := by
  obtain ⟨g, o, spot⟩ := a
  have hs : spot = none := World.cell?_spot h
  exact ⟨g, o, by rw [hs]⟩
theorem Try.cellsWt : Try.prog.cellsOf 31 = 4 := by kernel_rfl
theorem Try.cellsEv : Try.prog.cellsOf 46 = 4 := by kernel_rfl
theorem Try.cellsSe : Try.prog.cellsOf 48 = 3 := by kernel_rfl
theorem Try.cellsWd : Try.prog.cellsOf 25 = 2 := by kernel_rfl
theorem Try.cellsO9 : Try.prog.cellsOf 33 = 8 := by kernel_rfl
theorem Try.bytesWt : Try.prog.bytesOf 31 = 40 := by kernel_rfl
theorem Try.bytesSe : Try.prog.bytesOf 48 = 40 := by kernel_rfl
theorem Try.cellsLW : Try.prog.cellsOf 22 = 1 := by kernel_rfl
theorem Try.cellsLV : Try.prog.cellsOf 23 = 1 := by kernel_rfl
theorem Try.cellsLE : Try.prog.cellsOf 38 = 1 := by kernel_rfl
theorem Try.cellsStr' : Try.prog.cellsOf 9 = 1 := by kernel_rfl
theorem Try.cellsInt : Try.prog.cellsOf 3 = 1 := by kernel_rfl
theorem Try.cellsBoo : Try.prog.cellsOf 4 = 1 := by kernel_rfl
theorem Try.cellsI64 : Try.prog.cellsOf 2 = 1 := by kernel_rfl
theorem Try.cellsBy' : Try.prog.cellsOf 5 = 1 := by kernel_rfl

/-- An operation of the law. -/
structure O9 where
  what : Int
  x : Wt
  kind : Int
  p : Bs
  n : Int
def o9C (o : O9) : List Value := [.int .i64 o.what, .int .i64 o.x.s, .int .i64 o.x.n, strV o.x.p, .bool o.x.d, .int .i64 o.kind, strV o.p, .int .i64 o.n]
def o9V (o : O9) : Value := .agg #[.int .i64 o.what, .int .i64 o.x.s, .int .i64 o.x.n, strV o.x.p, .bool o.x.d, .int .i64 o.kind, strV o.p, .int .i64 o.n]

/-- A slice that reads as texts. -/
structure Tx (w : World) (v : Value) (l : List Bs) : Prop where
  ex : ∃ ao cap, v = .slice ao l.length cap ∧ (l = [] ∨ ∃ g o, ao = some ⟨g, o, none⟩ ∧ ∀ i (h : i < l.length), w.cell? ⟨g, o + i, none⟩ = some (.string (B l[i])))
theorem Tx.non {w w' : World} {v : Value} {l : List Bs} (h : Tx w v l) (f : Fp Non w w') : Tx w' v l := by
  obtain ⟨ao, cap, rfl, h3⟩ := h.ex
  refine ⟨ao, cap, rfl, ?_⟩
  rcases h3 with h3 | ⟨g, o, rfl, hc⟩
  · exact .inl h3
  · exact .inr ⟨g, o, rfl, fun i hi => f.cell (hc i hi) (fun h => h)⟩
theorem Tx.shape {w : World} {v : Value} {l : List Bs} (h : Tx w v l) : ∃ ao cap, v = .slice ao l.length cap := by
  obtain ⟨ao, cap, rfl, _⟩ := h.ex; exact ⟨ao, cap, rfl⟩
theorem Tx.at {w : World} {v : Value} {l : List Bs} (h : Tx w v l) (h0 : 0 < l.length) : ∃ g o cap, v = .slice (some ⟨g, o, none⟩) l.length cap ∧ ∀ i (h : i < l.length), w.cell? ⟨g, o + i, none⟩ = some (.string (B l[i])) := by
  obtain ⟨ao, cap, rfl, h3⟩ := h.ex
  rcases h3 with h3 | ⟨g, o, rfl, hc⟩
  · subst h3; simp at h0
  · exact ⟨g, o, cap, rfl, hc⟩

/-- An operation at a place. -/
structure OpAt (w : World) (g o : Nat) (x : O9) : Prop where
  c0 : w.cell? ⟨g, o, none⟩ = some (.int .i64 x.what)
  c1 : w.cell? ⟨g, o + 1, none⟩ = some (.int .i64 x.x.s)
  c2 : w.cell? ⟨g, o + 2, none⟩ = some (.int .i64 x.x.n)
  c3 : w.cell? ⟨g, o + 3, none⟩ = some (strV x.x.p)
  c4 : w.cell? ⟨g, o + 4, none⟩ = some (.bool x.x.d)
  c5 : w.cell? ⟨g, o + 5, none⟩ = some (.int .i64 x.kind)
  c6 : w.cell? ⟨g, o + 6, none⟩ = some (strV x.p)
  c7 : w.cell? ⟨g, o + 7, none⟩ = some (.int .i64 x.n)
theorem OpAt.keep {w w' : World} {g o : Nat} {n : O9} (h : OpAt w g o n) {S : Nat → Prop} (f : Fp S w w') (hS : ¬ S g) : OpAt w' g o n :=
  ⟨f.cell h.c0 hS, f.cell h.c1 hS, f.cell h.c2 hS, f.cell h.c3 hS, f.cell h.c4 hS, f.cell h.c5 hS, f.cell h.c6 hS, f.cell h.c7 hS⟩
theorem OpAt.get {w : World} {g o : Nat} {n : O9} (h : OpAt w g o n) : ∀ j v, (o9C n)[j]? = some v → w.cell? ((⟨g, o, none⟩ : Addr).add j) = some v := by
  intro j v hv
  rw [Addr.add_lit]
  match j, hv with
  | 0, hv => rw [← Option.some.inj hv]; exact h.c0
  | 1, hv => rw [← Option.some.inj hv]; exact h.c1
  | 2, hv => rw [← Option.some.inj hv]; exact h.c2
  | 3, hv => rw [← Option.some.inj hv]; exact h.c3
  | 4, hv => rw [← Option.some.inj hv]; exact h.c4
  | 5, hv => rw [← Option.some.inj hv]; exact h.c5
  | 6, hv => rw [← Option.some.inj hv]; exact h.c6
  | 7, hv => rw [← Option.some.inj hv]; exact h.c7
  | j + 8, hv => simp [o9C] at hv
structure Ops (w : World) (v : Value) (l : List O9) : Prop where
  ex : ∃ ao cap, v = .slice ao l.length cap ∧ (l = [] ∨ ∃ g o, ao = some ⟨g, o, none⟩ ∧ ∀ i (h : i < l.length), OpAt w g (o + i * 8) l[i])
theorem Ops.non {w w' : World} {v : Value} {l : List O9} (h : Ops w v l) (f : Fp Non w w') : Ops w' v l := by
  obtain ⟨ao, cap, rfl, h3⟩ := h.ex
  refine ⟨ao, cap, rfl, ?_⟩
  rcases h3 with h3 | ⟨g, o, rfl, hc⟩
  · exact .inl h3
  · exact .inr ⟨g, o, rfl, fun i hi => (hc i hi).keep f (fun h => h)⟩
theorem Ops.shape {w : World} {v : Value} {l : List O9} (h : Ops w v l) : ∃ ao cap, v = .slice ao l.length cap := by
  obtain ⟨ao, cap, rfl, _⟩ := h.ex; exact ⟨ao, cap, rfl⟩
theorem Ops.at {w : World} {v : Value} {l : List O9} (h : Ops w v l) (h0 : 0 < l.length) : ∃ g o cap, v = .slice (some ⟨g, o, none⟩) l.length cap ∧ ∀ i (h : i < l.length), OpAt w g (o + i * 8) l[i] := by
  obtain ⟨ao, cap, rfl, h3⟩ := h.ex
  rcases h3 with h3 | ⟨g, o, rfl, hc⟩
  · subst h3; simp at h0
  · exact ⟨g, o, cap, rfl, hc⟩

/-- A slice that reads as bytes. -/
structure By (w : World) (v : Value) (l : Bs) : Prop where
  ex : ∃ ao cap, v = .slice ao l.length cap ∧ (l = [] ∨ ∃ g o, ao = some ⟨g, o, none⟩ ∧ ∀ i (h : i < l.length), w.cell? ⟨g, o + i, none⟩ = some (.int .u8 l[i].toNat))
theorem By.non {w w' : World} {v : Value} {l : Bs} (h : By w v l) (f : Fp Non w w') : By w' v l := by
  obtain ⟨ao, cap, rfl, h3⟩ := h.ex
  refine ⟨ao, cap, rfl, ?_⟩
  rcases h3 with h3 | ⟨g, o, rfl, hc⟩
  · exact .inl h3
  · exact .inr ⟨g, o, rfl, fun i hi => f.cell (hc i hi) (fun h => h)⟩
theorem By.shape {w : World} {v : Value} {l : Bs} (h : By w v l) : ∃ ao cap, v = .slice ao l.length cap := by
  obtain ⟨ao, cap, rfl, _⟩ := h.ex; exact ⟨ao, cap, rfl⟩
theorem By.at {w : World} {v : Value} {l : Bs} (h : By w v l) (h0 : 0 < l.length) : ∃ g o cap, v = .slice (some ⟨g, o, none⟩) l.length cap ∧ ∀ i (h : i < l.length), w.cell? ⟨g, o + i, none⟩ = some (.int .u8 l[i].toNat) := by
  obtain ⟨ao, cap, rfl, h3⟩ := h.ex
  rcases h3 with h3 | ⟨g, o, rfl, hc⟩
  · subst h3; simp at h0
  · exact ⟨g, o, cap, rfl, hc⟩

section
variable {H : Type} {enc : TypeId × Value → H} {W : World}

/-- []string, opened. -/
theorem open_strings {v : Value} {d : DataW H} {p : List MemPlace} {base : Nat} (hv : Value.okWide Try.prog W .any base 72 v) (h : DataW.Trod enc Try.prog W 0 (fun _ => true) true 72 v d p) :
    ∃ l, Tx W v l ∧ True ∧ True := by
  obtain ⟨a0, len, cap, rfl⟩ := okWide_slice Try.underlying72 hv
  obtain ⟨fuel, hf⟩ := h
  have hf : DataW.trod enc Try.prog W 0 (fun _ => true) true fuel 72 [.slice a0 len cap] = some (d, p) := by simpa [Value.cells] using hf
  rcases open_strs Try.underlying72 Try.underlying9 Try.cellsStr' hf with ⟨hcs, hx⟩ | ⟨a, len', cap', m, Sx, hcs, _, hl, hm, hmm, hx, hcell⟩
  · simp only [List.cons.injEq, Value.slice.injEq, and_true] at hcs
    obtain ⟨rfl, rfl, rfl⟩ := hcs
    exact ⟨[], ⟨none, 0, rfl, .inl rfl⟩, trivial, trivial⟩
  · simp only [List.cons.injEq, Value.slice.injEq, and_true] at hcs
    obtain ⟨rfl, rfl, rfl⟩ := hcs
    simp only [if_true] at hmm
    subst hmm
    have hlen : ((List.range len).map fun i => (Sx i).data.toList).length = len := by simp
    by_cases h0 : len = 0
    · subst h0
      exact ⟨[], ⟨some a, m, rfl, .inl rfl⟩, trivial, trivial⟩
    · have hc0 := (hcell 0 (by omega)).1
      have hc0 : W.cell? a = some (.string (Sx 0)) := by simpa [Addr.add] using hc0
      obtain ⟨g, o, rfl⟩ := spot_none hc0
      refine ⟨(List.range len).map fun i => (Sx i).data.toList, ⟨some ⟨g, o, none⟩, m, by rw [hlen], .inr ⟨g, o, rfl, fun j hj => ?_⟩⟩, trivial, trivial⟩
      rw [hlen] at hj
      have := (hcell j (by omega)).1
      rw [Addr.add_lit] at this
      rw [this]
      simp only [List.getElem_map, List.getElem_range]
      rw [← B_of]

theorem wt_of {n : Nat} {cs : List Value} {y : DataW H × List MemPlace} (hlen : cs.length = 4) (h : DataW.trod enc Try.prog W 0 (fun _ => true) true n 31 cs = some y) :
    ∃ x : Wt, cs = wtC x ∧ x.p.length ≤ maxLen := by
  obtain ⟨xs, k, hk, hxy, _, hxl, hf⟩ := DataW.trod_struct Try.underlying31 h
  match xs, hxl, cs, hlen with
  | [y0, y1, y2, y3], _, [v0, v1, v2, v3], _ =>
    have g0 := hf 0 _ rfl
    have g1 := hf 1 _ rfl
    have g2 := hf 2 _ rfl
    have g3 := hf 3 _ rfl
    simp [Try.cellsI64] at g0
    simp [Try.cellsI64] at g1
    simp [Try.cellsStr'] at g2
    simp [Try.cellsBoo] at g3
    obtain ⟨z0, e0, _, _⟩ := DataW.trod_int Try.underlying2 g0
    obtain ⟨z1, e1, _, _⟩ := DataW.trod_int Try.underlying2 g1
    obtain ⟨z2, e2, _, h2⟩ := DataW.trod_string Try.underlying9 g2
    obtain ⟨z3, e3, _⟩ := DataW.trod_bool Try.underlying4 g3
    simp only [List.cons.injEq, and_true] at e0 e1 e2 e3
    subst e0 e1 e2 e3
    refine ⟨⟨z0, z1, z2.data.toList, z3⟩, ?_, ?_⟩
    · unfold wtC strV; rw [← B_of]
    · simpa using h2
theorem ev_of {n : Nat} {cs : List Value} {y : DataW H × List MemPlace} (hlen : cs.length = 4) (h : DataW.trod enc Try.prog W 0 (fun _ => true) true n 46 cs = some y) :
    ∃ x : Ev, cs = evC x := by
  obtain ⟨xs, k, hk, hxy, _, hxl, hf⟩ := DataW.trod_struct Try.underlying46 h
  match xs, hxl, cs, hlen with
  | [y0, y1, y2, y3], _, [v0, v1, v2, v3], _ =>
    have g0 := hf 0 _ rfl
    have g1 := hf 1 _ rfl
    have g2 := hf 2 _ rfl
    have g3 := hf 3 _ rfl
    simp [Try.cellsI64] at g0
    simp [Try.cellsInt] at g1
    simp [Try.cellsStr'] at g2
    simp [Try.cellsI64] at g3
    obtain ⟨z0, e0, _, _⟩ := DataW.trod_int Try.underlying2 g0
    obtain ⟨z1, e1, _, _⟩ := DataW.trod_int Try.underlying3 g1
    obtain ⟨z2, e2, _, h2⟩ := DataW.trod_string Try.underlying9 g2
    obtain ⟨z3, e3, _, _⟩ := DataW.trod_int Try.underlying2 g3
    simp only [List.cons.injEq, and_true] at e0 e1 e2 e3
    subst e0 e1 e2 e3
    refine ⟨⟨z0, z1, z2.data.toList, z3⟩, ?_⟩
    unfold evC strV; rw [← B_of]
/-- []Watch within, opened. -/
theorem open_ws_in {fuel : Nat} {v : Value} {y : DataW H × List MemPlace} (hf : DataW.trod enc Try.prog W 0 (fun _ => true) true fuel 22 [v] = some y) (hsz : ∀ n ∈ y.1.weights Try.prog 22, n ≤ reachBytes) :
    ∃ l, NsW W v l ∧ l.length ≤ 140737488355328 ∧ ∀ x ∈ l, x.p.length ≤ maxLen := by
  rcases open_slice Try.underlying22 hf with ⟨hcs, hx⟩ | ⟨a, len, cap, m, n, D, Pl, hcs, _, hl, hm, hmm, hx, hel⟩
  · simp only [List.cons.injEq, and_true] at hcs
    subst hcs
    exact ⟨[], NsW.nil W, Nat.zero_le _, fun _ h => by cases h⟩
  · simp only [List.cons.injEq, and_true] at hcs
    subst hcs
    simp only [if_true] at hmm
    subst hmm
    have hlb : len ≤ 140737488355328 := by
      rw [hx] at hsz
      simp only [DataW.weights, Try.underlying22] at hsz
      have := hsz _ (List.mem_cons_self ..)
      rw [Try.bytesWt] at this
      simp only [List.length_map, List.length_range, reachBytes] at this
      omega
    have each : ∀ i, i < len → ∃ x : Wt, (∀ j (hj : j < 4), W.cell? (a.add (i * 4 + j)) = (wtC x)[j]?) ∧ x.p.length ≤ maxLen := by
      intro i hi
      obtain ⟨cs', h1, h2⟩ := hel i (by omega)
      rw [Try.cellsWt] at h1
      obtain ⟨_, hlen, hcell⟩ := World.cells?_some h1
      obtain ⟨x, rfl, h3⟩ := wt_of hlen h2
      refine ⟨x, fun j hj => ?_, h3⟩
      have := hcell j (by omega)
      rw [add_add] at this
      exact this
    obtain ⟨f, hfi⟩ : ∃ f : Nat → Wt, ∀ i, i < len → (∀ j (hj : j < 4), W.cell? (a.add (i * 4 + j)) = (wtC (f i))[j]?) ∧ (f i).p.length ≤ maxLen := by
      haveI : Inhabited Wt := ⟨⟨0, 0, [], false⟩⟩
      exact choose_lt each
    have hlen : ((List.range len).map f).length = len := by simp
    by_cases h0 : len = 0
    · subst h0
      exact ⟨[], ⟨some a, m, rfl, by simp, hm, .inl rfl⟩, Nat.zero_le _, fun _ h => by cases h⟩
    · have hc0 := (hfi 0 (by omega)).1 0 (by omega)
      have hc0 : W.cell? a = some (.int .i64 (f 0).s) := by simpa [Addr.add, wtC] using hc0
      have hlt := World.block_lt_of_cell? W a hc0
      obtain ⟨g, o, rfl⟩ := spot_none hc0
      refine ⟨(List.range len).map f, ⟨some ⟨g, o, none⟩, m, by rw [hlen], by rw [hlen]; exact hl, hm, .inr ⟨g, o, rfl, hlt, fun i hi => ?_⟩⟩, by rw [hlen]; exact hlb, fun x hx => ?_⟩
      · rw [hlen] at hi
        obtain ⟨k1, _⟩ := hfi i (by omega)
        simp only [List.getElem_map, List.getElem_range]
        have q0 := k1 0 (by omega)
        have q1 := k1 1 (by omega)
        have q2 := k1 2 (by omega)
        have q3 := k1 3 (by omega)
        rw [Addr.add_lit] at q0 q1 q2 q3
        exact ⟨by simpa [wtC] using q0, by simpa [Nat.add_assoc, wtC] using q1, by simpa [Nat.add_assoc, wtC] using q2, by simpa [Nat.add_assoc, wtC] using q3⟩
      · obtain ⟨i, hi, rfl⟩ := List.mem_map.1 hx
        exact (hfi i (List.mem_range.1 hi)).2

/-- []Event within, opened. -/
theorem open_es_in {fuel : Nat} {v : Value} {y : DataW H × List MemPlace} (hf : DataW.trod enc Try.prog W 0 (fun _ => true) true fuel 38 [v] = some y) :
    ∃ l, NsE W v l := by
  rcases open_slice Try.underlying38 hf with ⟨hcs, hx⟩ | ⟨a, len, cap, m, n, D, Pl, hcs, _, hl, hm, hmm, hx, hel⟩
  · simp only [List.cons.injEq, and_true] at hcs
    subst hcs
    exact ⟨[], NsE.nil W⟩
  · simp only [List.cons.injEq, and_true] at hcs
    subst hcs
    simp only [if_true] at hmm
    subst hmm
    have each : ∀ i, i < len → ∃ x : Ev, (∀ j (hj : j < 4), W.cell? (a.add (i * 4 + j)) = (evC x)[j]?) := by
      intro i hi
      obtain ⟨cs', h1, h2⟩ := hel i (by omega)
      rw [Try.cellsEv] at h1
      obtain ⟨_, hlen, hcell⟩ := World.cells?_some h1
      obtain ⟨x, rfl⟩ := ev_of hlen h2
      refine ⟨x, fun j hj => ?_⟩
      have := hcell j (by omega)
      rw [add_add] at this
      exact this
    obtain ⟨f, hfi⟩ : ∃ f : Nat → Ev, ∀ i, i < len → (∀ j (hj : j < 4), W.cell? (a.add (i * 4 + j)) = (evC (f i))[j]?) := by
      haveI : Inhabited Ev := ⟨⟨0, 0, [], 0⟩⟩
      exact choose_lt each
    have hlen : ((List.range len).map f).length = len := by simp
    by_cases h0 : len = 0
    · subst h0
      exact ⟨[], ⟨some a, m, rfl, by simp, hm, .inl rfl⟩⟩
    · have hc0 := (hfi 0 (by omega)) 0 (by omega)
      have hc0 : W.cell? a = some (.int .i64 (f 0).num) := by simpa [Addr.add, evC] using hc0
      have hlt := World.block_lt_of_cell? W a hc0
      obtain ⟨g, o, rfl⟩ := spot_none hc0
      refine ⟨(List.range len).map f, ⟨some ⟨g, o, none⟩, m, by rw [hlen], by rw [hlen]; exact hl, hm, .inr ⟨g, o, rfl, hlt, fun i hi => ?_⟩⟩⟩
      rw [hlen] at hi
      have k1 := hfi i (by omega)
      simp only [List.getElem_map, List.getElem_range]
      have q0 := k1 0 (by omega)
      have q1 := k1 1 (by omega)
      have q2 := k1 2 (by omega)
      have q3 := k1 3 (by omega)
      rw [Addr.add_lit] at q0 q1 q2 q3
      exact ⟨by simpa [evC] using q0, by simpa [Nat.add_assoc, evC] using q1, by simpa [Nat.add_assoc, evC] using q2, by simpa [Nat.add_assoc, evC] using q3⟩

theorem se_of {n : Nat} {cs : List Value} {y : DataW H × List MemPlace} (hlen : cs.length = 3) (h : DataW.trod enc Try.prog W 0 (fun _ => true) true n 48 cs = some y) :
    ∃ x : Sv, cs = svC x ∧ NsE W x.ev x.s.evs := by
  obtain ⟨xs, k, hk, hxy, _, hxl, hf⟩ := DataW.trod_struct Try.underlying48 h
  match xs, hxl, cs, hlen with
  | [y0, y1, y2], _, [v0, v1, v2], _ =>
    have g0 := hf 0 _ rfl
    have g1 := hf 1 _ rfl
    have g2 := hf 2 _ rfl
    simp [Try.cellsI64] at g0
    simp [Try.cellsI64] at g1
    simp [Try.cellsLE] at g2
    obtain ⟨z0, e0, _, _⟩ := DataW.trod_int Try.underlying2 g0
    obtain ⟨z1, e1, _, _⟩ := DataW.trod_int Try.underlying2 g1
    simp only [List.cons.injEq, and_true] at e0 e1
    subst e0 e1
    obtain ⟨l, hl⟩ := open_es_in g2
    obtain ⟨a, c, rfl⟩ := hl.shape
    exact ⟨⟨⟨z0, z1, l⟩, a, c⟩, rfl, hl⟩

/-- []Session within, opened. -/
theorem open_ss_in {fuel : Nat} {v : Value} {y : DataW H × List MemPlace} (hf : DataW.trod enc Try.prog W 0 (fun _ => true) true fuel 23 [v] = some y) (hsz : ∀ n ∈ y.1.weights Try.prog 23, n ≤ reachBytes) :
    ∃ l, Ses W v l ∧ l.length ≤ 140737488355328 := by
  rcases open_slice Try.underlying23 hf with ⟨hcs, hx⟩ | ⟨a, len, cap, m, n, D, Pl, hcs, _, hl, hm, hmm, hx, hel⟩
  · simp only [List.cons.injEq, and_true] at hcs
    subst hcs
    exact ⟨[], Ses.nil W, Nat.zero_le _⟩
  · simp only [List.cons.injEq, and_true] at hcs
    subst hcs
    simp only [if_true] at hmm
    subst hmm
    have hlb : len ≤ 140737488355328 := by
      rw [hx] at hsz
      simp only [DataW.weights, Try.underlying23] at hsz
      have := hsz _ (List.mem_cons_self ..)
      rw [Try.bytesSe] at this
      simp only [List.length_map, List.length_range, reachBytes] at this
      omega
    have each : ∀ i, i < len → ∃ x : Sv, (∀ j (hj : j < 3), W.cell? (a.add (i * 3 + j)) = (svC x)[j]?) ∧ NsE W x.ev x.s.evs := by
      intro i hi
      obtain ⟨cs', h1, h2⟩ := hel i (by omega)
      rw [Try.cellsSe] at h1
      obtain ⟨_, hlen, hcell⟩ := World.cells?_some h1
      obtain ⟨x, rfl, h3⟩ := se_of hlen h2
      refine ⟨x, fun j hj => ?_, h3⟩
      have := hcell j (by omega)
      rw [add_add] at this
      exact this
    obtain ⟨f, hfi⟩ : ∃ f : Nat → Sv, ∀ i, i < len → (∀ j (hj : j < 3), W.cell? (a.add (i * 3 + j)) = (svC (f i))[j]?) ∧ NsE W (f i).ev (f i).s.evs := by
      haveI : Inhabited Sv := ⟨⟨⟨0, 0, []⟩, none, 0⟩⟩
      exact choose_lt each
    have hlen : ((List.range len).map f).length = len := by simp
    by_cases h0 : len = 0
    · subst h0
      exact ⟨[], ⟨[], rfl, ⟨some a, m, rfl, by simp, hm, .inl rfl⟩, fun _ h => by cases h⟩, Nat.zero_le _⟩
    · have hc0 := (hfi 0 (by omega)).1 0 (by omega)
      have hc0 : W.cell? a = some (.int .i64 (f 0).s.num) := by simpa [Addr.add, svC] using hc0
      have hlt := World.block_lt_of_cell? W a hc0
      obtain ⟨g, o, rfl⟩ := spot_none hc0
      refine ⟨((List.range len).map f).map Sv.s, ⟨(List.range len).map f, rfl, ⟨some ⟨g, o, none⟩, m, by rw [hlen], by rw [hlen]; exact hl, hm, .inr ⟨g, o, rfl, hlt, fun i hi => ?_⟩⟩, fun x hx => ?_⟩, by rw [List.length_map, hlen]; exact hlb⟩
      · rw [hlen] at hi
        obtain ⟨k1, _⟩ := hfi i (by omega)
        simp only [List.getElem_map, List.getElem_range]
        have q0 := k1 0 (by omega)
        have q1 := k1 1 (by omega)
        have q2 := k1 2 (by omega)
        rw [Addr.add_lit] at q0 q1 q2
        exact ⟨by simpa [svC] using q0, by simpa [Nat.add_assoc, svC] using q1, by simpa [Nat.add_assoc, svC] using q2⟩
      · obtain ⟨i, hi, rfl⟩ := List.mem_map.1 hx
        exact (hfi i (List.mem_range.1 hi)).2

/-- A watched, opened. -/
theorem open_watched {v : Value} {d : DataW H} {p : List MemPlace} {base : Nat} (hv : Value.okWide Try.prog W .any base 25 v) (h : DataW.Trod enc Try.prog W 0 (fun _ => true) true 25 v d p) (hsz : ∀ n ∈ d.weights Try.prog 25, n ≤ reachBytes) :
    ∃ s : Wd, WdR W v s ∧ s.ws.length ≤ 140737488355328 ∧ s.ss.length ≤ 140737488355328 := by
  obtain ⟨cs, rfl, hcs⟩ := okWide_struct Try.underlying25 hv
  rw [Try.cellsWd] at hcs
  obtain ⟨fuel, hf⟩ := h
  have hf : DataW.trod enc Try.prog W 0 (fun _ => true) true fuel 25 cs.toList = some (d, p) := by simpa [Value.cells] using hf
  obtain ⟨cs⟩ := cs
  simp only at hf
  have hlen : cs.length = 2 := by simpa using hcs
  obtain ⟨xs, k, hk, hxy, _, hxl, hf⟩ := DataW.trod_struct Try.underlying25 hf
  match xs, hxl, cs, hlen with
  | [y0, y1], _, [v0, v1], _ =>
    have g0 := hf 0 _ rfl
    have g1 := hf 1 _ rfl
    simp [Try.cellsLW] at g0
    simp [Try.cellsLV] at g1
    have hd := congrArg Prod.fst hxy
    simp only at hd
    obtain ⟨l0, h0, n0, _⟩ := open_ws_in g0 (fun n hn => hsz n (by rw [hd]; simp only [DataW.weights, Try.underlying25, List.map_cons, List.map_nil, DataW.weightsEach, List.mem_append]; simp [hn]))
    obtain ⟨l1, h1, n1⟩ := open_ss_in g1 (fun n hn => hsz n (by rw [hd]; simp only [DataW.weights, Try.underlying25, List.map_cons, List.map_nil, DataW.weightsEach, List.mem_append]; simp [hn]))
    exact ⟨⟨l0, l1⟩, ⟨v0, v1, rfl, h0, h1⟩, n0, n1⟩

/-- A watch, opened. -/
theorem open_watch {v : Value} {d : DataW H} {p : List MemPlace} {base : Nat} (hv : Value.okWide Try.prog W .any base 31 v) (h : DataW.Trod enc Try.prog W 0 (fun _ => true) true 31 v d p) :
    ∃ x : Wt, v = wtV x ∧ x.p.length ≤ maxLen := by
  obtain ⟨cs, rfl, hcs⟩ := okWide_struct Try.underlying31 hv
  rw [Try.cellsWt] at hcs
  obtain ⟨fuel, hf⟩ := h
  have hf : DataW.trod enc Try.prog W 0 (fun _ => true) true fuel 31 cs.toList = some (d, p) := by simpa [Value.cells] using hf
  obtain ⟨cs⟩ := cs
  simp only at hf
  have hlen : cs.length = 4 := by simpa using hcs
  obtain ⟨x, rfl, hx⟩ := wt_of hlen hf
  exact ⟨x, rfl, hx⟩

theorem o9_of {n : Nat} {cs : List Value} {y : DataW H × List MemPlace} (hlen : cs.length = 8) (h : DataW.trod enc Try.prog W 0 (fun _ => true) true n 33 cs = some y) :
    ∃ x : O9, cs = o9C x := by
  obtain ⟨xs, k, hk, hxy, _, hxl, hf⟩ := DataW.trod_struct Try.underlying33 h
  match xs, hxl, cs, hlen with
  | [y0, y1, y2, y3, y4], _, [v0, v1, v2, v3, v4, v5, v6, v7], _ =>
    have g0 := hf 0 _ rfl
    have g1 := hf 1 _ rfl
    have g2 := hf 2 _ rfl
    have g3 := hf 3 _ rfl
    have g4 := hf 4 _ rfl
    simp [Try.cellsInt] at g0
    simp [Try.cellsInt, Try.cellsWt] at g1
    simp [Try.cellsInt, Try.cellsWt] at g2
    simp [Try.cellsInt, Try.cellsWt, Try.cellsStr'] at g3
    simp [Try.cellsInt, Try.cellsWt, Try.cellsStr', Try.cellsI64] at g4
    obtain ⟨z0, e0, _, _⟩ := DataW.trod_int Try.underlying3 g0
    obtain ⟨z1, e1, _⟩ := wt_of rfl g1
    obtain ⟨z2, e2, _, _⟩ := DataW.trod_int Try.underlying3 g2
    obtain ⟨z3, e3, _, _⟩ := DataW.trod_string Try.underlying9 g3
    obtain ⟨z4, e4, _, _⟩ := DataW.trod_int Try.underlying2 g4
    simp only [wtC, List.cons.injEq, and_true] at e0 e1 e2 e3 e4
    obtain ⟨rfl, rfl, rfl, rfl⟩ := e1
    subst e0 e2 e3 e4
    refine ⟨⟨z0, z1, z2, z3.data.toList, z4⟩, ?_⟩
    unfold o9C; simp only [strV]; rw [← B_of]

/-- An operation, opened. -/
theorem open_op9 {v : Value} {d : DataW H} {p : List MemPlace} {base : Nat} (hv : Value.okWide Try.prog W .any base 33 v) (h : DataW.Trod enc Try.prog W 0 (fun _ => true) true 33 v d p) :
    ∃ x : O9, v = o9V x := by
  obtain ⟨cs, rfl, hcs⟩ := okWide_struct Try.underlying33 hv
  rw [Try.cellsO9] at hcs
  obtain ⟨fuel, hf⟩ := h
  have hf : DataW.trod enc Try.prog W 0 (fun _ => true) true fuel 33 cs.toList = some (d, p) := by simpa [Value.cells] using hf
  obtain ⟨cs⟩ := cs
  simp only at hf
  have hlen : cs.length = 8 := by simpa using hcs
  obtain ⟨x, rfl⟩ := o9_of hlen hf
  exact ⟨x, rfl⟩

/-- []Op, opened. -/
theorem open_op9s {v : Value} {d : DataW H} {p : List MemPlace} {base : Nat} (hv : Value.okWide Try.prog W .any base 26 v) (h : DataW.Trod enc Try.prog W 0 (fun _ => true) true 26 v d p) :
    ∃ l, Ops W v l ∧ True ∧ True := by
  obtain ⟨a0, len, cap, rfl⟩ := okWide_slice Try.underlying26 hv
  obtain ⟨fuel, hf⟩ := h
  have hf : DataW.trod enc Try.prog W 0 (fun _ => true) true fuel 26 [.slice a0 len cap] = some (d, p) := by simpa [Value.cells] using hf
  rcases open_slice Try.underlying26 hf with ⟨hcs, hx⟩ | ⟨a, len', cap', m, n, D, Pl, hcs, _, hl, hm, hmm, hx, hel⟩
  · simp only [List.cons.injEq, Value.slice.injEq, and_true] at hcs
    obtain ⟨rfl, rfl, rfl⟩ := hcs
    exact ⟨[], ⟨none, 0, rfl, .inl rfl⟩, trivial, trivial⟩
  · simp only [List.cons.injEq, Value.slice.injEq, and_true] at hcs
    obtain ⟨rfl, rfl, rfl⟩ := hcs
    simp only [if_true] at hmm
    subst hmm
    have each : ∀ i, i < len → ∃ x : O9, ∀ j (hj : j < 8), W.cell? (a.add (i * 8 + j)) = (o9C x)[j]? := by
      intro i hi
      obtain ⟨cs', h1, h2⟩ := hel i (by omega)
      rw [Try.cellsO9] at h1
      obtain ⟨_, hlen, hcell⟩ := World.cells?_some h1
      obtain ⟨x, rfl⟩ := o9_of hlen h2
      refine ⟨x, fun j hj => ?_⟩
      have := hcell j (by omega)
      rw [add_add] at this
      exact this
    obtain ⟨f, hfi⟩ : ∃ f : Nat → O9, ∀ i, i < len → ∀ j (hj : j < 8), W.cell? (a.add (i * 8 + j)) = (o9C (f i))[j]? := by
      haveI : Inhabited O9 := ⟨⟨0, ⟨0, 0, [], false⟩, 0, [], 0⟩⟩
      exact choose_lt each
    have hlen : ((List.range len).map f).length = len := by simp
    by_cases h0 : len = 0
    · subst h0
      exact ⟨[], ⟨some a, m, rfl, .inl rfl⟩, trivial, trivial⟩
    · have hc0 := hfi 0 (by omega) 0 (by omega)
      have hc0 : W.cell? a = some (.int .i64 (f 0).what) := by simpa [Addr.add, o9C] using hc0
      obtain ⟨g, o, rfl⟩ := spot_none hc0
      refine ⟨(List.range len).map f, ⟨some ⟨g, o, none⟩, m, by rw [hlen], .inr ⟨g, o, rfl, fun i hi => ?_⟩⟩, trivial, trivial⟩
      rw [hlen] at hi
      have k1 := hfi i (by omega)
      simp only [List.getElem_map, List.getElem_range]
      have q0 := k1 0 (by omega)
      have q1 := k1 1 (by omega)
      have q2 := k1 2 (by omega)
      have q3 := k1 3 (by omega)
      have q4 := k1 4 (by omega)
      have q5 := k1 5 (by omega)
      have q6 := k1 6 (by omega)
      have q7 := k1 7 (by omega)
      rw [Addr.add_lit] at q0 q1 q2 q3 q4 q5 q6 q7
      exact ⟨by simpa [o9C] using q0, by simpa [Nat.add_assoc, o9C] using q1, by simpa [Nat.add_assoc, o9C] using q2, by simpa [Nat.add_assoc, o9C] using q3, by simpa [Nat.add_assoc, o9C] using q4, by simpa [Nat.add_assoc, o9C] using q5, by simpa [Nat.add_assoc, o9C] using q6, by simpa [Nat.add_assoc, o9C] using q7⟩

end
end Go.Proofs.Ytjdpbieifcjmiaa
