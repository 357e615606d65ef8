/- Texts of this proof, merged. -/
import Derived.Test.YtdfnfkknbjageaaZS
import Derived.Test.YtdfnfkknbjageaaZN
import Derived.ProofKit
import Derived.OpenShut
import Derived.Deep.Strs
import Derived.Deep.Grids
import Derived.ChangeSlices
set_option linter.unusedVariables false
set_option linter.unusedSimpArgs false
/- The arguments of the laws of layer 15: rows, opened, with what each text weighs (gen_dh.py) -/
namespace Go.Proofs.Ytdfnfkknbjageaa
set_option maxRecDepth 20000
set_option linter.unusedVariables false
set_option linter.unusedSimpArgs false
open Go.ChangeShapes Go.WideShapes Go.ChangeAt Go.RowKit Pm Go.Deep
open Go.WideMaps Go.WideElems
open Go.ChangeMaps (setBlock shut_map_nil open_string shut_string)


theorem Try.cMt : Try.prog.cellsOf 55 = 4 := by kernel_rfl
theorem Try.cNd : Try.prog.cellsOf 109 = 5 := by kernel_rfl
theorem Try.cTu : Try.prog.cellsOf 94 = 2 := by kernel_rfl
theorem Try.cTx : Try.prog.cellsOf 9 = 1 := by kernel_rfl
theorem Try.cIn : Try.prog.cellsOf 3 = 1 := by kernel_rfl
theorem Try.c64 : Try.prog.cellsOf 2 = 1 := by kernel_rfl
theorem Try.cBo : Try.prog.cellsOf 4 = 1 := by kernel_rfl
theorem Try.cPt : Try.prog.cellsOf 99 = 7 := by kernel_rfl
theorem Try.cPc : Try.prog.cellsOf 101 = 8 := by kernel_rfl
theorem Try.cWa : Try.prog.cellsOf 43 = 4 := by kernel_rfl
theorem Try.cSo : Try.prog.cellsOf 34 = 2 := by kernel_rfl
theorem Try.cCo : Try.prog.cellsOf 45 = 16 := by kernel_rfl
theorem Try.cLP : Try.prog.cellsOf 40 = 1 := by kernel_rfl
theorem Try.cLS : Try.prog.cellsOf 41 = 1 := by kernel_rfl
theorem Try.cLN : Try.prog.cellsOf 31 = 1 := by kernel_rfl
theorem Try.cLT : Try.prog.cellsOf 32 = 1 := by kernel_rfl
theorem slc_of {w : World} {c : Cd} {vp vn vt vg : Value} (f1 : Sg peC 8 w vp c.ps) (f2 : Ns w vn c.st.nodes) (f3 : Ts w vt c.st.turns) (f4 : Tx w vg c.gone) : Slc vp vn vt vg := by
  obtain ⟨ap, cp, rfl⟩ := f1.shape
  obtain ⟨an, cn, rfl⟩ := f2.shape
  obtain ⟨at', ct, rfl⟩ := f3.shape
  obtain ⟨ag, cg, rfl⟩ := f4.shape
  exact ⟨⟨_, _, _, rfl⟩, ⟨_, _, _, rfl⟩, ⟨_, _, _, rfl⟩, ⟨_, _, _, rfl⟩⟩
section
variable {H : Type} {enc : TypeId × Value → H} {W : World}

/-- A row within, opened: f tells an element's cells. -/
theorem rows_in {T SL : TypeId} {α : Type} (z : α) {f : α → List Value} {k : Nat} {P : α → Prop} (hk : 0 < k) (hu : Try.prog.underlying SL = some (.slice T)) (hc : Try.prog.cellsOf T = k) (hb : 0 < Try.prog.bytesOf T)
    (one : ∀ (n : Nat) (cs : List Value) (y : DataW H × List MemPlace), cs.length = k → DataW.trod enc Try.prog W 0 (fun _ => true) true n T cs = some y → (∀ m ∈ y.1.weights Try.prog T, m ≤ reachBytes) → ∃ x, cs = f x ∧ P x)
    {fuel : Nat} {v : Value} {y : DataW H × List MemPlace} (hf : DataW.trod enc Try.prog W 0 (fun _ => true) true fuel SL [v] = some y) (hsz : ∀ n ∈ y.1.weights Try.prog SL, n ≤ reachBytes) :
    ∃ l : List α, (∃ ao cap, v = .slice ao l.length cap ∧ l.length ≤ cap ∧ cap ≤ maxLen ∧ (l = [] ∨ ∃ g o, ao = some ⟨g, o, none⟩ ∧ g < W.heap.size ∧ ∀ i (h : i < l.length) j u, (f l[i])[j]? = some u → W.cell? ⟨g, o + i * k + j, none⟩ = some u)) ∧ l.length ≤ 140737488355328 ∧ ∀ x ∈ l, P x := by
  rcases open_slice hu hf with ⟨hcs, hx⟩ | ⟨a, len, cap, m, n, D, Pl, hcs, _, hl, hm, hmm, hx, hel⟩
  · simp only [List.cons.injEq, and_true] at hcs
    subst hcs
    exact ⟨[], ⟨none, 0, rfl, Nat.le_refl _, Nat.zero_le _, .inl rfl⟩, Nat.zero_le _, fun _ h => by cases h⟩
  · simp only [List.cons.injEq, and_true] at hcs
    subst hcs
    simp only [if_true] at hmm
    subst hmm
    have hlb : len ≤ 140737488355328 := by
      have h2 := hsz
      rw [hx] at h2
      simp only [DataW.weights, hu] at h2
      have := h2 _ (List.mem_cons_self ..)
      simp only [List.length_map, List.length_range, reachBytes] at this
      have h3 : len * 1 ≤ (len + (m - len)) * Try.prog.bytesOf T := Nat.mul_le_mul (Nat.le_add_right _ _) hb
      omega
    have hwD : ∀ i, i < len → ∀ n ∈ (D i).weights Try.prog T, n ≤ reachBytes := by
      intro i hi n hn
      refine hsz n ?_
      rw [hx]
      have hall : ∀ (xs : List Nat), i ∈ xs → n ∈ DataW.weightsAll Try.prog T (xs.map D) := by
        intro xs
        induction xs with
        | nil => intro h; cases h
        | cons a r ih =>
          intro h
          simp only [List.map_cons, DataW.weightsAll, List.mem_append]
          rcases List.mem_cons.1 h with rfl | h
          · exact .inl hn
          · exact .inr (ih h)
      simp only [DataW.weights, hu]
      exact List.mem_cons_of_mem _ (List.mem_append_left _ (hall _ (List.mem_range.2 hi)))
    have each : ∀ i, i < len → ∃ x : α, (∀ j (hj : j < k), W.cell? (a.add (i * k + j)) = (f x)[j]?) ∧ (f x).length = k ∧ P x := by
      intro i hi
      obtain ⟨cs', h1, h2⟩ := hel i (by omega)
      rw [hc] at h1
      obtain ⟨_, hlen, hcell⟩ := World.cells?_some h1
      obtain ⟨x, rfl, hp⟩ := one _ _ _ hlen h2 (hwD i hi)
      refine ⟨x, fun j hj => ?_, hlen, hp⟩
      have := hcell j (by omega)
      rw [add_add] at this
      exact this
    obtain ⟨e, hfi⟩ : ∃ e : Nat → α, ∀ i, i < len → (∀ j (hj : j < k), W.cell? (a.add (i * k + j)) = (f (e i))[j]?) ∧ (f (e i)).length = k ∧ P (e i) := by
      haveI : Inhabited α := ⟨z⟩
      exact choose_lt each
    have hlen : ((List.range len).map e).length = len := by simp
    by_cases h0 : len = 0
    · subst h0
      exact ⟨[], ⟨some a, m, rfl, by simp, hm, .inl rfl⟩, Nat.zero_le _, fun _ h => by cases h⟩
    · obtain ⟨hc0, hl0, _⟩ := hfi 0 (by omega)
      have hc0 := hc0 0 hk
      rw [List.getElem?_eq_getElem (by omega)] at hc0
      have hc1 : W.cell? a = some ((f (e 0))[0]'(by omega)) := by simpa [Addr.add] using hc0
      have hlt := World.block_lt_of_cell? W a hc1
      obtain ⟨g, o, rfl⟩ := spot_none hc1
      refine ⟨(List.range len).map e, ⟨some ⟨g, o, none⟩, m, by rw [hlen], by rw [hlen]; exact hl, hm, .inr ⟨g, o, rfl, hlt, fun i hi j u hj => ?_⟩⟩, by rw [hlen]; exact hlb, fun x hx => ?_⟩
      · rw [hlen] at hi
        simp only [List.getElem_map, List.getElem_range] at hj
        obtain ⟨k1, k2, _⟩ := hfi i hi
        have hjk : j < k := by rw [← k2]; exact (List.getElem?_eq_some_iff.1 hj).1
        have := k1 j hjk
        rw [Addr.add_lit, ← Nat.add_assoc] at this
        rw [this]; exact hj
      · obtain ⟨i, hi, rfl⟩ := List.mem_map.1 hx
        exact (hfi i (List.mem_range.1 hi)).2.2
/-- A text, opened, with its weight. -/
theorem str_in {n : Nat} {v : Value} {y : DataW H × List MemPlace} (h : DataW.trod enc Try.prog W 0 (fun _ => true) true n 9 [v] = some y) (hsz : ∀ m ∈ y.1.weights Try.prog 9, m ≤ reachBytes) : ∃ s : Bs, v = strV s ∧ s.length ≤ 140737488355328 := by
  obtain ⟨z, e, hx, _⟩ := DataW.trod_string Try.underlying9 h
  simp only [List.cons.injEq, and_true] at e
  subst e
  refine ⟨z.data.toList, by unfold strV; rw [← B_of], ?_⟩
  rw [hx] at hsz
  have := hsz _ (by simp only [DataW.weights]; exact List.mem_singleton_self _)
  simp only [reachBytes] at this
  omega
theorem mt_in (n : Nat) (cs : List Value) (y : DataW H × List MemPlace) (hlen : cs.length = 4) (h : DataW.trod enc Try.prog W 0 (fun _ => true) true n 55 cs = some y) (hsz : ∀ m ∈ y.1.weights Try.prog 55, m ≤ reachBytes) : ∃ x : Mt, cs = mtC x ∧ x.d.length ≤ 140737488355328 := by
  obtain ⟨xs, k, hk, hxy, _, hxl, hf⟩ := DataW.trod_struct Try.underlying55 h
  match xs, hxl, cs, hlen with
  | [y0, y1, y2, y3], _, [v0, v1, v2, v3], _ =>
    have g0 := hf 0 _ rfl
    have g1 := hf 1 _ rfl
    have g2 := hf 2 _ rfl
    have g3 := hf 3 _ rfl
    simp [Try.cIn, Try.c64, Try.cTx, Try.cBo, Try.cPt, Try.cLP, Try.cLS, Try.cLN, Try.cLT, Try.cSo, Try.cWa] at g0
    simp [Try.cIn, Try.c64, Try.cTx, Try.cBo, Try.cPt, Try.cLP, Try.cLS, Try.cLN, Try.cLT, Try.cSo, Try.cWa] at g1
    simp [Try.cIn, Try.c64, Try.cTx, Try.cBo, Try.cPt, Try.cLP, Try.cLS, Try.cLN, Try.cLT, Try.cSo, Try.cWa] at g2
    simp [Try.cIn, Try.c64, Try.cTx, Try.cBo, Try.cPt, Try.cLP, Try.cLS, Try.cLN, Try.cLT, Try.cSo, Try.cWa] at g3
    have hd := congrArg Prod.fst hxy
    simp only at hd
    obtain ⟨s0, e0, w0⟩ := str_in g0 (fun n hn => hsz n (by rw [hd]; simp only [DataW.weights, Try.underlying55, List.map_cons, List.map_nil, DataW.weightsEach, List.mem_append]; simp [hn]))
    subst e0
    obtain ⟨z1, e1, _, _⟩ := DataW.trod_int Try.underlying3 g1
    simp only [List.cons.injEq, and_true] at e1
    subst e1
    obtain ⟨z2, e2, _, _⟩ := DataW.trod_int Try.underlying2 g2
    simp only [List.cons.injEq, and_true] at e2
    subst e2
    obtain ⟨z3, e3, _, _⟩ := DataW.trod_int Try.underlying3 g3
    simp only [List.cons.injEq, and_true] at e3
    subst e3
    exact ⟨⟨s0, z1, z2, z3⟩, rfl, w0⟩
theorem tu_in (n : Nat) (cs : List Value) (y : DataW H × List MemPlace) (hlen : cs.length = 2) (h : DataW.trod enc Try.prog W 0 (fun _ => true) true n 94 cs = some y) (hsz : ∀ m ∈ y.1.weights Try.prog 94, m ≤ reachBytes) : ∃ x : Tu, cs = tuC x ∧ x.dir.length ≤ 140737488355328 := by
  obtain ⟨xs, k, hk, hxy, _, hxl, hf⟩ := DataW.trod_struct Try.underlying94 h
  match xs, hxl, cs, hlen with
  | [y0, y1], _, [v0, v1], _ =>
    have g0 := hf 0 _ rfl
    have g1 := hf 1 _ rfl
    simp [Try.cIn, Try.c64, Try.cTx, Try.cBo, Try.cPt, Try.cLP, Try.cLS, Try.cLN, Try.cLT, Try.cSo, Try.cWa] at g0
    simp [Try.cIn, Try.c64, Try.cTx, Try.cBo, Try.cPt, Try.cLP, Try.cLS, Try.cLN, Try.cLT, Try.cSo, Try.cWa] at g1
    have hd := congrArg Prod.fst hxy
    simp only at hd
    obtain ⟨s0, e0, w0⟩ := str_in g0 (fun n hn => hsz n (by rw [hd]; simp only [DataW.weights, Try.underlying94, List.map_cons, List.map_nil, DataW.weightsEach, List.mem_append]; simp [hn]))
    subst e0
    obtain ⟨z1, e1, _, _⟩ := DataW.trod_int Try.underlying2 g1
    simp only [List.cons.injEq, and_true] at e1
    subst e1
    exact ⟨⟨s0, z1⟩, rfl, w0⟩
theorem nd_in (n : Nat) (cs : List Value) (y : DataW H × List MemPlace) (hlen : cs.length = 5) (h : DataW.trod enc Try.prog W 0 (fun _ => true) true n 109 cs = some y) (hsz : ∀ m ∈ y.1.weights Try.prog 109, m ≤ reachBytes) : ∃ x : Nd, cs = ndC x ∧ x.path.length ≤ 140737488355328 ∧ x.data.length ≤ 140737488355328 := by
  obtain ⟨xs, k, hk, hxy, _, hxl, hf⟩ := DataW.trod_struct Try.underlying109 h
  match xs, hxl, cs, hlen with
  | [y0, y1, y2, y3, y4], _, [v0, v1, v2, v3, v4], _ =>
    have g0 := hf 0 _ rfl
    have g1 := hf 1 _ rfl
    have g2 := hf 2 _ rfl
    have g3 := hf 3 _ rfl
    have g4 := hf 4 _ rfl
    simp [Try.cIn, Try.c64, Try.cTx, Try.cBo, Try.cPt, Try.cLP, Try.cLS, Try.cLN, Try.cLT, Try.cSo, Try.cWa] at g0
    simp [Try.cIn, Try.c64, Try.cTx, Try.cBo, Try.cPt, Try.cLP, Try.cLS, Try.cLN, Try.cLT, Try.cSo, Try.cWa] at g1
    simp [Try.cIn, Try.c64, Try.cTx, Try.cBo, Try.cPt, Try.cLP, Try.cLS, Try.cLN, Try.cLT, Try.cSo, Try.cWa] at g2
    simp [Try.cIn, Try.c64, Try.cTx, Try.cBo, Try.cPt, Try.cLP, Try.cLS, Try.cLN, Try.cLT, Try.cSo, Try.cWa] at g3
    simp [Try.cIn, Try.c64, Try.cTx, Try.cBo, Try.cPt, Try.cLP, Try.cLS, Try.cLN, Try.cLT, Try.cSo, Try.cWa] at g4
    have hd := congrArg Prod.fst hxy
    simp only at hd
    obtain ⟨s0, e0, w0⟩ := str_in g0 (fun n hn => hsz n (by rw [hd]; simp only [DataW.weights, Try.underlying109, List.map_cons, List.map_nil, DataW.weightsEach, List.mem_append]; simp [hn]))
    subst e0
    obtain ⟨s1, e1, w1⟩ := str_in g1 (fun n hn => hsz n (by rw [hd]; simp only [DataW.weights, Try.underlying109, List.map_cons, List.map_nil, DataW.weightsEach, List.mem_append]; simp [hn]))
    subst e1
    obtain ⟨z2, e2, _, _⟩ := DataW.trod_int Try.underlying2 g2
    simp only [List.cons.injEq, and_true] at e2
    subst e2
    obtain ⟨z3, e3, _, _⟩ := DataW.trod_int Try.underlying2 g3
    simp only [List.cons.injEq, and_true] at e3
    subst e3
    obtain ⟨z4, e4, _, _⟩ := DataW.trod_int Try.underlying2 g4
    simp only [List.cons.injEq, and_true] at e4
    subst e4
    exact ⟨⟨s0, s1, z2, z3, z4⟩, rfl, w0, w1⟩
theorem pt_in (n : Nat) (cs : List Value) (y : DataW H × List MemPlace) (hlen : cs.length = 7) (h : DataW.trod enc Try.prog W 0 (fun _ => true) true n 99 cs = some y) (hsz : ∀ m ∈ y.1.weights Try.prog 99, m ≤ reachBytes) : ∃ x : Pt, cs = ptC x ∧ x.dir.length ≤ 140737488355328 ∧ x.path.length ≤ 140737488355328 ∧ x.data.length ≤ 140737488355328 := by
  obtain ⟨xs, k, hk, hxy, _, hxl, hf⟩ := DataW.trod_struct Try.underlying99 h
  match xs, hxl, cs, hlen with
  | [y0, y1, y2, y3, y4, y5, y6], _, [v0, v1, v2, v3, v4, v5, v6], _ =>
    have g0 := hf 0 _ rfl
    have g1 := hf 1 _ rfl
    have g2 := hf 2 _ rfl
    have g3 := hf 3 _ rfl
    have g4 := hf 4 _ rfl
    have g5 := hf 5 _ rfl
    have g6 := hf 6 _ rfl
    simp [Try.cIn, Try.c64, Try.cTx, Try.cBo, Try.cPt, Try.cLP, Try.cLS, Try.cLN, Try.cLT, Try.cSo, Try.cWa] at g0
    simp [Try.cIn, Try.c64, Try.cTx, Try.cBo, Try.cPt, Try.cLP, Try.cLS, Try.cLN, Try.cLT, Try.cSo, Try.cWa] at g1
    simp [Try.cIn, Try.c64, Try.cTx, Try.cBo, Try.cPt, Try.cLP, Try.cLS, Try.cLN, Try.cLT, Try.cSo, Try.cWa] at g2
    simp [Try.cIn, Try.c64, Try.cTx, Try.cBo, Try.cPt, Try.cLP, Try.cLS, Try.cLN, Try.cLT, Try.cSo, Try.cWa] at g3
    simp [Try.cIn, Try.c64, Try.cTx, Try.cBo, Try.cPt, Try.cLP, Try.cLS, Try.cLN, Try.cLT, Try.cSo, Try.cWa] at g4
    simp [Try.cIn, Try.c64, Try.cTx, Try.cBo, Try.cPt, Try.cLP, Try.cLS, Try.cLN, Try.cLT, Try.cSo, Try.cWa] at g5
    simp [Try.cIn, Try.c64, Try.cTx, Try.cBo, Try.cPt, Try.cLP, Try.cLS, Try.cLN, Try.cLT, Try.cSo, Try.cWa] at g6
    have hd := congrArg Prod.fst hxy
    simp only at hd
    obtain ⟨z0, e0, _, _⟩ := DataW.trod_int Try.underlying3 g0
    simp only [List.cons.injEq, and_true] at e0
    subst e0
    obtain ⟨s1, e1, w1⟩ := str_in g1 (fun n hn => hsz n (by rw [hd]; simp only [DataW.weights, Try.underlying99, List.map_cons, List.map_nil, DataW.weightsEach, List.mem_append]; simp [hn]))
    subst e1
    obtain ⟨s2, e2, w2⟩ := str_in g2 (fun n hn => hsz n (by rw [hd]; simp only [DataW.weights, Try.underlying99, List.map_cons, List.map_nil, DataW.weightsEach, List.mem_append]; simp [hn]))
    subst e2
    obtain ⟨s3, e3, w3⟩ := str_in g3 (fun n hn => hsz n (by rw [hd]; simp only [DataW.weights, Try.underlying99, List.map_cons, List.map_nil, DataW.weightsEach, List.mem_append]; simp [hn]))
    subst e3
    obtain ⟨z4, e4, _, _⟩ := DataW.trod_int Try.underlying2 g4
    simp only [List.cons.injEq, and_true] at e4
    subst e4
    obtain ⟨z5, e5, _, _⟩ := DataW.trod_int Try.underlying2 g5
    simp only [List.cons.injEq, and_true] at e5
    subst e5
    obtain ⟨b6, e6, _⟩ := DataW.trod_bool Try.underlying4 g6
    simp only [List.cons.injEq, and_true] at e6
    subst e6
    exact ⟨⟨z0, s1, s2, s3, z4, z5, b6⟩, rfl, w1, w2, w3⟩
theorem pc_in (n : Nat) (cs : List Value) (y : DataW H × List MemPlace) (hlen : cs.length = 8) (h : DataW.trod enc Try.prog W 0 (fun _ => true) true n 101 cs = some y) (hsz : ∀ m ∈ y.1.weights Try.prog 101, m ≤ reachBytes) : ∃ x : Pe, cs = peC x ∧ x.p.dir.length ≤ 140737488355328 ∧ x.p.path.length ≤ 140737488355328 ∧ x.p.data.length ≤ 140737488355328 := by
  obtain ⟨xs, k, hk, hxy, _, hxl, hf⟩ := DataW.trod_struct Try.underlying101 h
  match xs, hxl, cs, hlen with
  | [y0, y1], _, [v0, v1, v2, v3, v4, v5, v6, v7], _ =>
    have g0 := hf 0 _ rfl
    have g1 := hf 1 _ rfl
    simp [Try.cIn, Try.c64, Try.cTx, Try.cBo, Try.cPt, Try.cLP, Try.cLS, Try.cLN, Try.cLT, Try.cSo, Try.cWa] at g0
    simp [Try.cIn, Try.c64, Try.cTx, Try.cBo, Try.cPt, Try.cLP, Try.cLS, Try.cLN, Try.cLT, Try.cSo, Try.cWa] at g1
    have hd := congrArg Prod.fst hxy
    simp only at hd
    obtain ⟨z0, e0, _, _⟩ := DataW.trod_int Try.underlying3 g0
    simp only [List.cons.injEq, and_true] at e0
    subst e0
    obtain ⟨p1, e1, w1⟩ := pt_in _ _ _ rfl g1 (fun n hn => hsz n (by rw [hd]; simp only [DataW.weights, Try.underlying101, List.map_cons, List.map_nil, DataW.weightsEach, List.mem_append]; simp [hn]))
    exact ⟨⟨z0, p1⟩, by unfold peC; rw [e1], w1⟩
theorem tx_in (n : Nat) (cs : List Value) (y : DataW H × List MemPlace) (hlen : cs.length = 1) (h : DataW.trod enc Try.prog W 0 (fun _ => true) true n 9 cs = some y) (hsz : ∀ m ∈ y.1.weights Try.prog 9, m ≤ reachBytes) : ∃ x : Bs, cs = (fun s => [strV s]) x ∧ x.length ≤ 140737488355328 := by
  match cs, hlen with
  | [v], _ =>
    obtain ⟨s, rfl, hs⟩ := str_in h hsz
    exact ⟨s, rfl, hs⟩
theorem mts_in {fuel : Nat} {v : Value} {y : DataW H × List MemPlace} (hf : DataW.trod enc Try.prog W 0 (fun _ => true) true fuel 22 [v] = some y) (hsz : ∀ n ∈ y.1.weights Try.prog 22, n ≤ reachBytes) : ∃ l, NsM W v l ∧ SzM l := by
  obtain ⟨l, ⟨ao, cap, e, h1, h2, h3⟩, hn, hp⟩ := rows_in mt0 (f := mtC) (by decide) Try.underlying22 Try.cMt (of_decide_eq_true (by kernel_rfl)) mt_in hf hsz
  refine ⟨l, ⟨ao, cap, e, h1, h2, ?_⟩, hn, hp⟩
  rcases h3 with h3 | ⟨g, o, e2, hg, hc⟩
  · exact .inl h3
  · exact .inr ⟨g, o, e2, hg, fun i hi => ⟨hc i hi 0 _ rfl, hc i hi 1 _ rfl, hc i hi 2 _ rfl, hc i hi 3 _ rfl⟩⟩
theorem txs_in {fuel : Nat} {v : Value} {y : DataW H × List MemPlace} (hf : DataW.trod enc Try.prog W 0 (fun _ => true) true fuel 41 [v] = some y) (hsz : ∀ n ∈ y.1.weights Try.prog 41, n ≤ reachBytes) : ∃ l, Tx W v l ∧ l.length ≤ 140737488355328 ∧ ∀ x ∈ l, x.length ≤ 140737488355328 := by
  obtain ⟨l, ⟨ao, cap, e, h1, h2, h3⟩, hn, hp⟩ := rows_in [] (f := fun s : Bs => [strV s]) (by decide) Try.underlying41 Try.cTx (of_decide_eq_true (by kernel_rfl)) tx_in hf hsz
  refine ⟨l, ⟨ao, cap, e, ?_⟩, hn, hp⟩
  rcases h3 with h3 | ⟨g, o, e2, hg, hc⟩
  · exact .inl h3
  · exact .inr ⟨g, o, e2, fun i hi => by have := hc i hi 0 _ rfl; simp only [Nat.mul_one, Nat.add_zero] at this; exact this⟩
theorem pcs_in {fuel : Nat} {v : Value} {y : DataW H × List MemPlace} (hf : DataW.trod enc Try.prog W 0 (fun _ => true) true fuel 40 [v] = some y) (hsz : ∀ n ∈ y.1.weights Try.prog 40, n ≤ reachBytes) : ∃ l, Sg peC 8 W v l ∧ l.length ≤ 140737488355328 ∧ ∀ x ∈ l, x.p.dir.length ≤ 140737488355328 ∧ x.p.path.length ≤ 140737488355328 ∧ x.p.data.length ≤ 140737488355328 := by
  obtain ⟨l, ⟨ao, cap, e, h1, h2, h3⟩, hn, hp⟩ := rows_in ⟨0, ⟨0, [], [], [], 0, 0, false⟩⟩ (f := peC) (by decide) Try.underlying40 Try.cPc (of_decide_eq_true (by kernel_rfl)) pc_in hf hsz
  refine ⟨l, ⟨ao, cap, e, ?_⟩, hn, hp⟩
  rcases h3 with h3 | ⟨g, o, e2, hg, hc⟩
  · exact .inl h3
  · exact .inr ⟨g, o, e2, fun i hi => ⟨fun j u hu => hc i hi j u hu⟩⟩
theorem nds_in {fuel : Nat} {v : Value} {y : DataW H × List MemPlace} (hf : DataW.trod enc Try.prog W 0 (fun _ => true) true fuel 31 [v] = some y) (hsz : ∀ n ∈ y.1.weights Try.prog 31, n ≤ reachBytes) : ∃ l, Ns W v l ∧ l.length ≤ 140737488355328 ∧ ∀ x ∈ l, x.path.length ≤ 140737488355328 ∧ x.data.length ≤ 140737488355328 := by
  obtain ⟨l, ⟨ao, cap, e, h1, h2, h3⟩, hn, hp⟩ := rows_in zeroNd (f := ndC) (by decide) Try.underlying31 Try.cNd (of_decide_eq_true (by kernel_rfl)) nd_in hf hsz
  refine ⟨l, ⟨ao, cap, e, h1, h2, ?_⟩, hn, hp⟩
  rcases h3 with h3 | ⟨g, o, e2, hg, hc⟩
  · exact .inl h3
  · exact .inr ⟨g, o, e2, hg, fun i hi => ⟨hc i hi 0 _ rfl, hc i hi 1 _ rfl, hc i hi 2 _ rfl, hc i hi 3 _ rfl, hc i hi 4 _ rfl⟩⟩
theorem tus_in {fuel : Nat} {v : Value} {y : DataW H × List MemPlace} (hf : DataW.trod enc Try.prog W 0 (fun _ => true) true fuel 32 [v] = some y) (hsz : ∀ n ∈ y.1.weights Try.prog 32, n ≤ reachBytes) : ∃ l, Ts W v l ∧ l.length ≤ 140737488355328 ∧ ∀ x ∈ l, x.dir.length ≤ 140737488355328 := by
  obtain ⟨l, ⟨ao, cap, e, h1, h2, h3⟩, hn, hp⟩ := rows_in ⟨[], 0⟩ (f := tuC) (by decide) Try.underlying32 Try.cTu (of_decide_eq_true (by kernel_rfl)) tu_in hf hsz
  refine ⟨l, ⟨ao, cap, e, h1, h2, ?_⟩, hn, hp⟩
  rcases h3 with h3 | ⟨g, o, e2, hg, hc⟩
  · exact .inl h3
  · exact .inr ⟨g, o, e2, hg, fun i hi => ⟨hc i hi 0 _ rfl, hc i hi 1 _ rfl⟩⟩
theorem st_in {n : Nat} {v0 v1 : Value} {y : DataW H × List MemPlace} (h : DataW.trod enc Try.prog W 0 (fun _ => true) true n 34 [v0, v1] = some y) (hsz : ∀ m ∈ y.1.weights Try.prog 34, m ≤ reachBytes) :
    ∃ s : St, Ns W v0 s.nodes ∧ Ts W v1 s.turns ∧ (s.nodes.length ≤ 140737488355328 ∧ ∀ x ∈ s.nodes, x.path.length ≤ 140737488355328 ∧ x.data.length ≤ 140737488355328) ∧ (s.turns.length ≤ 140737488355328 ∧ ∀ x ∈ s.turns, x.dir.length ≤ 140737488355328) := by
  obtain ⟨xs, k, hk, hxy, _, hxl, hf⟩ := DataW.trod_struct Try.underlying34 h
  match xs, hxl with
  | [y0, y1], _ =>
    have g0 := hf 0 _ rfl
    have g1 := hf 1 _ rfl
    simp [Try.cIn, Try.c64, Try.cTx, Try.cBo, Try.cPt, Try.cLP, Try.cLS, Try.cLN, Try.cLT, Try.cSo, Try.cWa] at g0
    simp [Try.cIn, Try.c64, Try.cTx, Try.cBo, Try.cPt, Try.cLP, Try.cLS, Try.cLN, Try.cLT, Try.cSo, Try.cWa] at g1
    have hd := congrArg Prod.fst hxy
    simp only at hd
    obtain ⟨l0, h0, n0⟩ := nds_in g0 (fun n hn => hsz n (by rw [hd]; simp only [DataW.weights, Try.underlying34, List.map_cons, List.map_nil, DataW.weightsEach, List.mem_append]; simp [hn]))
    obtain ⟨l1, h1, n1⟩ := tus_in g1 (fun n hn => hsz n (by rw [hd]; simp only [DataW.weights, Try.underlying34, List.map_cons, List.map_nil, DataW.weightsEach, List.mem_append]; simp [hn]))
    exact ⟨⟨l0, l1⟩, h0, h1, n0, n1⟩
theorem wa_in {n : Nat} {v0 v1 v2 v3 : Value} {y : DataW H × List MemPlace} (h : DataW.trod enc Try.prog W 0 (fun _ => true) true n 43 [v0, v1, v2, v3] = some y) (hsz : ∀ m ∈ y.1.weights Try.prog 43, m ≤ reachBytes) :
    ∃ (a b : Int) (p : Bs) (x : Bool), v0 = .int .i64 a ∧ v1 = .int .i64 b ∧ v2 = .string (B p) ∧ v3 = .bool x ∧ p.length ≤ 140737488355328 := by
  obtain ⟨xs, k, hk, hxy, _, hxl, hf⟩ := DataW.trod_struct Try.underlying43 h
  match xs, hxl with
  | [y0, y1, y2, y3], _ =>
    have g0 := hf 0 _ rfl
    have g1 := hf 1 _ rfl
    have g2 := hf 2 _ rfl
    have g3 := hf 3 _ rfl
    simp [Try.cIn, Try.c64, Try.cTx, Try.cBo, Try.cPt, Try.cLP, Try.cLS, Try.cLN, Try.cLT, Try.cSo, Try.cWa] at g0
    simp [Try.cIn, Try.c64, Try.cTx, Try.cBo, Try.cPt, Try.cLP, Try.cLS, Try.cLN, Try.cLT, Try.cSo, Try.cWa] at g1
    simp [Try.cIn, Try.c64, Try.cTx, Try.cBo, Try.cPt, Try.cLP, Try.cLS, Try.cLN, Try.cLT, Try.cSo, Try.cWa] at g2
    simp [Try.cIn, Try.c64, Try.cTx, Try.cBo, Try.cPt, Try.cLP, Try.cLS, Try.cLN, Try.cLT, Try.cSo, Try.cWa] at g3
    have hd := congrArg Prod.fst hxy
    simp only at hd
    obtain ⟨z0, e0, _, _⟩ := DataW.trod_int Try.underlying2 g0
    obtain ⟨z1, e1, _, _⟩ := DataW.trod_int Try.underlying2 g1
    obtain ⟨s2, e2, w2⟩ := str_in g2 (fun n hn => hsz n (by rw [hd]; simp only [DataW.weights, Try.underlying43, List.map_cons, List.map_nil, DataW.weightsEach, List.mem_append]; simp [hn]))
    obtain ⟨z3, e3, _⟩ := DataW.trod_bool Try.underlying4 g3
    simp only [List.cons.injEq, and_true] at e0 e1 e3
    exact ⟨z0, z1, s2, z3, e0, e1, e2, e3, w2⟩
abbrev C5 : Type := Cd × Value × Value × Value × Value
def c5L (x : C5) : List Value := (cdL x.1 x.2.1 x.2.2.1 x.2.2.2.1 x.2.2.2.2).toList
theorem cd_in (n : Nat) (cs : List Value) (y : DataW H × List MemPlace) (hlen : cs.length = 16) (h : DataW.trod enc Try.prog W 0 (fun _ => true) true n 45 cs = some y) (hsz : ∀ m ∈ y.1.weights Try.prog 45, m ≤ reachBytes) : ∃ x : C5, cs = c5L x ∧ (CdW W (.agg (cdL x.1 x.2.1 x.2.2.1 x.2.2.2.1 x.2.2.2.2)) x.1 ∧ Fw x.1 ∧ Ln x.1 ∧ Slc x.2.1 x.2.2.1 x.2.2.2.1 x.2.2.2.2) := by
  obtain ⟨xs, k, hk, hxy, _, hxl, hf⟩ := DataW.trod_struct Try.underlying45 h
  match xs, hxl, cs, hlen with
  | [y0, y1, y2, y3, y4, y5, y6, y7, y8, y9, y10, y11], _, [v0, v1, v2, v3, v4, v5, v6, v7, v8, v9, v10, v11, v12, v13, v14, v15], _ =>
    have g0 := hf 0 _ rfl
    have g1 := hf 1 _ rfl
    have g2 := hf 2 _ rfl
    have g3 := hf 3 _ rfl
    have g4 := hf 4 _ rfl
    have g5 := hf 5 _ rfl
    have g6 := hf 6 _ rfl
    have g7 := hf 7 _ rfl
    have g8 := hf 8 _ rfl
    have g9 := hf 9 _ rfl
    have g10 := hf 10 _ rfl
    have g11 := hf 11 _ rfl
    simp [Try.cIn, Try.c64, Try.cTx, Try.cBo, Try.cPt, Try.cLP, Try.cLS, Try.cLN, Try.cLT, Try.cSo, Try.cWa] at g0
    simp [Try.cIn, Try.c64, Try.cTx, Try.cBo, Try.cPt, Try.cLP, Try.cLS, Try.cLN, Try.cLT, Try.cSo, Try.cWa] at g1
    simp [Try.cIn, Try.c64, Try.cTx, Try.cBo, Try.cPt, Try.cLP, Try.cLS, Try.cLN, Try.cLT, Try.cSo, Try.cWa] at g2
    simp [Try.cIn, Try.c64, Try.cTx, Try.cBo, Try.cPt, Try.cLP, Try.cLS, Try.cLN, Try.cLT, Try.cSo, Try.cWa] at g3
    simp [Try.cIn, Try.c64, Try.cTx, Try.cBo, Try.cPt, Try.cLP, Try.cLS, Try.cLN, Try.cLT, Try.cSo, Try.cWa] at g4
    simp [Try.cIn, Try.c64, Try.cTx, Try.cBo, Try.cPt, Try.cLP, Try.cLS, Try.cLN, Try.cLT, Try.cSo, Try.cWa] at g5
    simp [Try.cIn, Try.c64, Try.cTx, Try.cBo, Try.cPt, Try.cLP, Try.cLS, Try.cLN, Try.cLT, Try.cSo, Try.cWa] at g6
    simp [Try.cIn, Try.c64, Try.cTx, Try.cBo, Try.cPt, Try.cLP, Try.cLS, Try.cLN, Try.cLT, Try.cSo, Try.cWa] at g7
    simp [Try.cIn, Try.c64, Try.cTx, Try.cBo, Try.cPt, Try.cLP, Try.cLS, Try.cLN, Try.cLT, Try.cSo, Try.cWa] at g8
    simp [Try.cIn, Try.c64, Try.cTx, Try.cBo, Try.cPt, Try.cLP, Try.cLS, Try.cLN, Try.cLT, Try.cSo, Try.cWa] at g9
    simp [Try.cIn, Try.c64, Try.cTx, Try.cBo, Try.cPt, Try.cLP, Try.cLS, Try.cLN, Try.cLT, Try.cSo, Try.cWa] at g10
    simp [Try.cIn, Try.c64, Try.cTx, Try.cBo, Try.cPt, Try.cLP, Try.cLS, Try.cLN, Try.cLT, Try.cSo, Try.cWa] at g11
    have hd := congrArg Prod.fst hxy
    simp only at hd
    obtain ⟨z0, e0, _, _⟩ := DataW.trod_int Try.underlying3 g0
    simp only [List.cons.injEq, and_true] at e0
    subst e0
    obtain ⟨z1, e1, _, _⟩ := DataW.trod_int Try.underlying2 g1
    simp only [List.cons.injEq, and_true] at e1
    subst e1
    obtain ⟨z2, e2, _, _⟩ := DataW.trod_int Try.underlying2 g2
    simp only [List.cons.injEq, and_true] at e2
    subst e2
    obtain ⟨z3, e3, _, _⟩ := DataW.trod_int Try.underlying2 g3
    simp only [List.cons.injEq, and_true] at e3
    subst e3
    obtain ⟨b4, e4, _⟩ := DataW.trod_bool Try.underlying4 g4
    simp only [List.cons.injEq, and_true] at e4
    subst e4
    obtain ⟨ps, f5, w5⟩ := pcs_in g5 (fun n hn => hsz n (by rw [hd]; simp only [DataW.weights, Try.underlying45, List.map_cons, List.map_nil, DataW.weightsEach, List.mem_append]; simp [hn]))
    obtain ⟨s6, e6, w6⟩ := str_in g6 (fun n hn => hsz n (by rw [hd]; simp only [DataW.weights, Try.underlying45, List.map_cons, List.map_nil, DataW.weightsEach, List.mem_append]; simp [hn]))
    subst e6
    obtain ⟨z7, e7, _, _⟩ := DataW.trod_int Try.underlying2 g7
    simp only [List.cons.injEq, and_true] at e7
    subst e7
    obtain ⟨z8, e8, _, _⟩ := DataW.trod_int Try.underlying3 g8
    simp only [List.cons.injEq, and_true] at e8
    subst e8
    obtain ⟨st, fn, ft, w9, w10⟩ := st_in g9 (fun n hn => hsz n (by rw [hd]; simp only [DataW.weights, Try.underlying45, List.map_cons, List.map_nil, DataW.weightsEach, List.mem_append]; simp [hn]))
    obtain ⟨gn, f11, w11⟩ := txs_in g10 (fun n hn => hsz n (by rw [hd]; simp only [DataW.weights, Try.underlying45, List.map_cons, List.map_nil, DataW.weightsEach, List.mem_append]; simp [hn]))
    obtain ⟨ws, wn, wp, dp, e12, e13, e14, e15, w12⟩ := wa_in g11 (fun n hn => hsz n (by rw [hd]; simp only [DataW.weights, Try.underlying45, List.map_cons, List.map_nil, DataW.weightsEach, List.mem_append]; simp [hn]))
    subst e12 e13 e14 e15
    exact ⟨⟨⟨z0, z1, z2, z3, b4, ps, s6, z7, z8, st, gn, ws, wn, wp, dp⟩, v5, v9, v10, v11⟩, rfl, ⟨_, _, _, _, rfl, f5, fn, ft, f11⟩, ⟨w6, w12, w5.1, w5.2, w9.1, w9.2, w10.1, w10.2, w11.1, w11.2⟩, ⟨w5.1, w9.1, w10.1, w11.1⟩, slc_of (c := ⟨z0, z1, z2, z3, b4, ps, s6, z7, z8, st, gn, ws, wn, wp, dp⟩) f5 fn ft f11⟩
theorem cds_in {fuel : Nat} {v : Value} {y : DataW H × List MemPlace} (hf : DataW.trod enc Try.prog W 0 (fun _ => true) true fuel 23 [v] = some y) (hsz : ∀ n ∈ y.1.weights Try.prog 23, n ≤ reachBytes) : ∃ l, CdsW W v l ∧ l.length ≤ 140737488355328 ∧ ∀ c ∈ l, Fw c ∧ Ln c := by
  obtain ⟨l, ⟨ao, cap, e, h1, h2, h3⟩, hn, hp⟩ := rows_in (⟨mkC 0 [] 0 0, .slice none 0 0, .slice none 0 0, .slice none 0 0, .slice none 0 0⟩ : C5) (f := c5L) (by decide) Try.underlying23 Try.cCo (of_decide_eq_true (by kernel_rfl)) cd_in hf hsz
  refine ⟨l.map (·.1), ⟨ao, cap, by rw [List.length_map]; exact e, ?_⟩, by rw [List.length_map]; exact hn, fun c hc => ?_⟩
  · rcases h3 with h3 | ⟨g, o, e2, hg, hc⟩
    · subst h3; exact .inl rfl
    · refine .inr ⟨g, o, e2, fun i hi => ?_⟩
      have hi' : i < l.length := by simpa using hi
      have hpi := hp _ (List.getElem_mem hi')
      have hci := hc i hi'
      rw [List.getElem_map]
      generalize l[i] = x at *
      exact ⟨x.2.1, x.2.2.1, x.2.2.2.1, x.2.2.2.2, ⟨fun j u hu => hci j u (by unfold c5L; rw [Array.getElem?_toList]; exact hu)⟩, hpi.1, hpi.2.2.2⟩
  · obtain ⟨x, hx, rfl⟩ := List.mem_map.1 hc
    exact ⟨(hp x hx).2.1, (hp x hx).2.2.1⟩
section
variable {v : Value} {d : DataW H} {p : List MemPlace} {base : Nat}
theorem open_mts (hv : Value.okWide Try.prog W .any base 22 v) (h : DataW.Trod enc Try.prog W 0 (fun _ => true) true 22 v d p) (hsz : ∀ n ∈ d.weights Try.prog 22, n ≤ reachBytes) : ∃ l, NsM W v l ∧ SzM l := by
  obtain ⟨a0, n0, c0, rfl⟩ := okWide_slice Try.underlying22 hv
  obtain ⟨fuel, hf⟩ := h
  exact mts_in (fuel := fuel) (y := (d, p)) (by simpa [Value.cells] using hf) hsz
theorem open_txs (hv : Value.okWide Try.prog W .any base 41 v) (h : DataW.Trod enc Try.prog W 0 (fun _ => true) true 41 v d p) (hsz : ∀ n ∈ d.weights Try.prog 41, n ≤ reachBytes) : ∃ l, Tx W v l ∧ l.length ≤ 140737488355328 ∧ ∀ x ∈ l, x.length ≤ 140737488355328 := by
  obtain ⟨a0, n0, c0, rfl⟩ := okWide_slice Try.underlying41 hv
  obtain ⟨fuel, hf⟩ := h
  exact txs_in (fuel := fuel) (y := (d, p)) (by simpa [Value.cells] using hf) hsz
theorem open_cds (hv : Value.okWide Try.prog W .any base 23 v) (h : DataW.Trod enc Try.prog W 0 (fun _ => true) true 23 v d p) (hsz : ∀ n ∈ d.weights Try.prog 23, n ≤ reachBytes) : ∃ l, CdsW W v l ∧ l.length ≤ 140737488355328 ∧ ∀ c ∈ l, Fw c ∧ Ln c := by
  obtain ⟨a0, n0, c0, rfl⟩ := okWide_slice Try.underlying23 hv
  obtain ⟨fuel, hf⟩ := h
  exact cds_in (fuel := fuel) (y := (d, p)) (by simpa [Value.cells] using hf) hsz
end
end
end Go.Proofs.Ytdfnfkknbjageaa

/- What the laws of layer 15 share (gen_e1.py) -/
namespace Go.Proofs.Ytdfnfkknbjageaa
set_option maxRecDepth 20000
set_option linter.unusedVariables false
set_option linter.unusedSimpArgs false
open Go.RowKit Pm

theorem stCD : StT TCD 16 := stT (by kernel_rfl) Try.underlying45 (fun w => by unfold isAgg; simp [run_underlying Try.underlying45])
theorem mkC_one (kind : Int) (p : Bs) (ep tt : Int) : ∀ u ∈ (#[.int .i64 kind, .int .i64 0, .int .i64 0, .int .i64 0, .bool false, .slice none 0 0, .string (B p), .int .i64 ep, .int .i64 tt, .slice none 0 0, .slice none 0 0, .slice none 0 0, .int .i64 0, .int .i64 0, .string ⟨#[]⟩, .bool false] : Array Value).toList, u.oneCell' = true := by
  intro u hu
  simp only [List.mem_cons, List.not_mem_nil, or_false] at hu
  rcases hu with rfl | rfl | rfl | rfl | rfl | rfl | rfl | rfl | rfl | rfl | rfl | rfl | rfl | rfl | rfl | rfl <;> rfl
theorem below_len (l : List Mt) (p : Bs) : (below l p).length ≤ l.length := List.length_filter_le _ _
theorem num_of {e : Int} (h : okE e = true) : num e := by have := okE_iff.1 h; unfold mxN at this; exact this
theorem bgM_no {l : List Mt} {p : Bs} {tt : Int} (h : (bgn l p tt).e ≠ 0) : bgM l p tt = (l, (bgn l p tt).e, []) := by unfold bgM; rw [if_neg h]
theorem bgM_yes {l : List Mt} {p : Bs} {tt : Int} (h : (bgn l p tt).e = 0) : bgM l p tt = ((bgn l p tt).l, 0, (bgn l p tt).m :: below (bgn l p tt).l (bgn l p tt).m.d) := by unfold bgM; rw [if_pos h]

/-- What is so, and stays so over the committee's block. -/
structure O1 (w : World) (q b : Nat) (l ms k : List Mt) (v u : Value) (V : World) : Prop where
  fp : Fp Non w V
  bx : V.heap[b]? = some (.cells (anL 0 v) TAN (0, 0))
  ns : NsM V v ms
  nw : NsM V u k
  me : MeW V q l
theorem O1.non {w V V' : World} {q b : Nat} {l ms k : List Mt} {v u : Value} (h : O1 w q b l ms k v u V) (f : Fp Non V V') : O1 w q b l ms k v u V' :=
  ⟨h.fp.then f, f.heap h.bx (fun h => h), h.ns.non f, h.nw.non f, h.me.non f⟩
theorem O1.later {w V V' : World} {q b : Nat} {l l' ms k : List Mt} {v u : Value} (h : O1 w q b l ms k v u V) (f : Fp (fun k => k = q) V V') (hm : MeW V' q l') (hb : b ≠ q) (hq : w.heap.size ≤ q) : O1 w q b l' ms k v u V' :=
  ⟨h.fp.trans f (fun k hk => .inr (by have hk : k = q := hk; omega)), f.heap h.bx hb, h.me.off h.ns f, h.me.off h.nw f, hm⟩
theorem boxC {W : World} {b : Nat} {kind ep tt : Int} {p : Bs} (h : W.heap[b]? = some (.cells #[.int .i64 kind, .int .i64 0, .int .i64 0, .int .i64 0, .bool false, .slice none 0 0, .string (B p), .int .i64 ep, .int .i64 tt, .slice none 0 0, .slice none 0 0, .slice none 0 0, .int .i64 0, .int .i64 0, .string ⟨#[]⟩, .bool false] TCD (0, 0))) :
    W.cell? ⟨b, 0, none⟩ = some (.int .i64 kind) ∧ W.cell? ⟨b, 1, none⟩ = some (.int .i64 0) ∧ W.cell? ⟨b, 2, none⟩ = some (.int .i64 0) ∧ W.cell? ⟨b, 3, none⟩ = some (.int .i64 0) ∧ W.cell? ⟨b, 4, none⟩ = some (.bool false) ∧ W.cell? ⟨b, 5, none⟩ = some (.slice none 0 0) ∧ W.cell? ⟨b, 6, none⟩ = some (.string (B p)) ∧ W.cell? ⟨b, 7, none⟩ = some (.int .i64 ep) ∧ W.cell? ⟨b, 8, none⟩ = some (.int .i64 tt) ∧ W.cell? ⟨b, 9, none⟩ = some (.slice none 0 0) ∧ W.cell? ⟨b, 10, none⟩ = some (.slice none 0 0) ∧ W.cell? ⟨b, 11, none⟩ = some (.slice none 0 0) ∧ W.cell? ⟨b, 12, none⟩ = some (.int .i64 0) ∧ W.cell? ⟨b, 13, none⟩ = some (.int .i64 0) ∧ W.cell? ⟨b, 14, none⟩ = some (.string ⟨#[]⟩) ∧ W.cell? ⟨b, 15, none⟩ = some (.bool false) := by
  refine ⟨?_, ?_, ?_, ?_, ?_, ?_, ?_, ?_, ?_, ?_, ?_, ?_, ?_, ?_, ?_, ?_⟩ <;> (rw [cell_of_row _ _ _ _ _ _ h]; rfl)
/-- What is so behind the first Flip. -/
structure O2 (w : World) (q b c : Nat) (p : Bs) (ep tt : Int) (l : List Mt) (v u : Value) (V : World) : Prop where
  fp : Fp Non w V
  bc : V.heap[b]? = some (.cells #[.int .i64 12, .int .i64 0, .int .i64 0, .int .i64 0, .bool false, .slice none 0 0, .string (B p), .int .i64 ep, .int .i64 tt, .slice none 0 0, .slice none 0 0, .slice none 0 0, .int .i64 0, .int .i64 0, .string ⟨#[]⟩, .bool false] TCD (0, 0))
  bx : V.heap[c]? = some (.cells (anL 0 v) TAN (0, 0))
  nw : NsM V u l
  me : MeW V q l
theorem O2.non {w V V' : World} {q b c : Nat} {p : Bs} {ep tt : Int} {l : List Mt} {v u : Value} (h : O2 w q b c p ep tt l v u V) (f : Fp Non V V') : O2 w q b c p ep tt l v u V' :=
  ⟨h.fp.then f, f.heap h.bc (fun h => h), f.heap h.bx (fun h => h), h.nw.non f, h.me.non f⟩
theorem O2.later {w V V' : World} {q b c : Nat} {p : Bs} {ep tt : Int} {l l' : List Mt} {v u : Value} (h : O2 w q b c p ep tt l v u V) (f : Fp (fun k => k = q) V V') (hm : MeW V' q l) (hb : b ≠ q) (hc : c ≠ q) (hq : w.heap.size ≤ q) : O2 w q b c p ep tt l v u V' :=
  ⟨h.fp.trans f (fun k hk => .inr (by have hk : k = q := hk; omega)), f.heap h.bc hb, f.heap h.bx hc, h.me.off h.nw f, hm⟩
theorem flM_first {l m : List Mt} {p : Bs} {tt : Int} {x : Mt} (h : Beg l p tt m x) (hx : x.e < 281474976710656) : flM m p x.e tt = (putM m ⟨p, tt, x.e + 1, tt⟩, 0) := by
  have e : flp m p x.e tt = ⟨putM m ⟨p, tt, x.e + 1, tt⟩, 0⟩ := by rw [h.flip x.e, if_pos ⟨rfl, hx⟩]
  unfold flM
  rw [e, if_pos rfl]
theorem flM_again {l m : List Mt} {p : Bs} {tt : Int} {x : Mt} (h : Beg l p tt m x) (hx : x.e < 281474976710656) : flM (putM m ⟨p, tt, x.e + 1, tt⟩) p x.e tt = (putM m ⟨p, tt, x.e + 1, tt⟩, 0) := by
  unfold flM
  rw [(h.flipped hx).2.2, if_pos rfl]
theorem str_len {H : Type} {l : List UInt8} (h : ∀ n ∈ DataW.weights (H := H) Try.prog 9 (.lit (.string l)), n ≤ reachBytes) : l.length ≤ 140737488355328 := by
  have := h _ (by simp only [DataW.weights]; exact List.mem_singleton_self _)
  simp only [reachBytes] at this
  omega
theorem wrap_rem (o : Int) (h : 0 ≤ o ∧ o ≤ 255) : ∃ z : Nat, z ≤ 4 ∧ o.tmod 5 = (z : Int) := by
  obtain ⟨n, rfl⟩ := Int.eq_ofNat_of_zero_le h.1
  exact ⟨n % 5, by omega, by rw [Int.tmod_eq_emod_of_nonneg (Int.natCast_nonneg n)]; omega⟩
end Go.Proofs.Ytdfnfkknbjageaa

