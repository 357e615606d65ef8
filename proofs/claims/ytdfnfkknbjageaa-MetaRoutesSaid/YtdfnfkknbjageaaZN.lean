/- Texts of this proof, merged. -/
import Derived.Test.YtdfnfkknbjageaaZH
import Derived.Test.YtdfnfkknbjageaaZG
import Derived.Test.YtdfnfkknbjageaaZE
import Derived.Test.YtdfnfkknbjageaaZD
import Derived.Test.YtdfnfkknbjageaaZB
import Derived.Test.YtdfnfkknbjageaaShelf
import Derived.Laws.StructEq
import Derived.Lib.Bytealg
import Derived.ProofKit
import Derived.OpenShut
import Derived.Deep.Strs
import Derived.ChangeSlices
import Derived.RangeFuncNested
import Derived.RangeFuncBound
import Derived.RangeFuncCalls
import Derived.RangeFuncLeaves
import Derived.RangeFuncBox
import Derived.Shelf.Abstract
import Derived.WalkKit
import Derived.OwnWalkIn
import Derived.TacticsInMore
import Derived.LoopNIn
import Derived.LoopIn
import Derived.Test.YtdfnfkknbjageaaZI
import Derived.Test.YtdfnfkknbjageaaZJ
import Derived.Test.YtdfnfkknbjageaaZF
set_option linter.unusedVariables false
set_option linter.unusedSimpArgs false
/- The arguments of the laws of layer 7: stores, parts. (gen_ip.py) -/
namespace Go.Proofs.Ytdfnfkknbjageaa
set_option maxRecDepth 20000
set_option linter.unusedVariables false
open Go.ChangeShapes Go.WideShapes Go.ChangeAt Go.RowKit Pm Go.Deep
open Go.WideMaps Go.WideElems
open Go.ChangeMaps (setBlock shut_map_nil open_string shut_string)
theorem Try.cellsTu : Try.prog.cellsOf 94 = 2 := by kernel_rfl
theorem Try.bytesTu : Try.prog.bytesOf 94 = 24 := by kernel_rfl
theorem Try.cellsPt : Try.prog.cellsOf 99 = 7 := by kernel_rfl
theorem Try.cellsSt : Try.prog.cellsOf 34 = 2 := by kernel_rfl
theorem Try.cellsNs : Try.prog.cellsOf 31 = 1 := by kernel_rfl
theorem Try.cellsTs : Try.prog.cellsOf 32 = 1 := by kernel_rfl

section
variable {H : Type} {enc : TypeId × Value → H} {W : World}
theorem tu_of {n : Nat} {cs : List Value} {y : DataW H × List MemPlace} (hlen : cs.length = 2) (h : DataW.trod enc Try.prog W 0 (fun _ => true) true n 94 cs = some y) :
    ∃ x : Tu, cs = tuC x ∧ x.dir.length ≤ maxLen := by
  obtain ⟨xs, k, hk, hxy, _, hxl, hf⟩ := DataW.trod_struct Try.underlying94 h
  match xs, hxl, cs, hlen with
  | [y0, y1], _, [v0, v1], _ =>
    have g0 := hf 0 _ rfl
    have g1 := hf 1 _ rfl
    simp [Try.cellsStr'] at g0
    simp [Try.cellsI64] at g1
    obtain ⟨z0, e0, _, h0⟩ := DataW.trod_string Try.underlying9 g0
    obtain ⟨z1, e1, _, _⟩ := DataW.trod_int Try.underlying2 g1
    simp only [List.cons.injEq, and_true] at e0 e1
    subst e0 e1
    refine ⟨⟨z0.data.toList, z1⟩, ?_, ?_⟩
    · unfold tuC strV; rw [← B_of]
    · simpa using h0

/-- []Node within, opened. -/
theorem open_nodes_in {fuel : Nat} {v : Value} {y : DataW H × List MemPlace} (hf : DataW.trod enc Try.prog W 0 (fun _ => true) true fuel 31 [v] = some y) (hsz : ∀ n ∈ y.1.weights Try.prog 31, n ≤ reachBytes) :
    ∃ l, Ns W v l ∧ l.length ≤ 140737488355328 ∧ ∀ x ∈ l, x.path.length ≤ maxLen ∧ x.data.length ≤ maxLen := by
  rcases open_slice Try.underlying31 hf with ⟨hcs, hx⟩ | ⟨a, len, cap, m, n, D, Pl, hcs, _, hl, hm, hmm, hx, hel⟩
  · simp only [List.cons.injEq, and_true] at hcs
    subst hcs
    exact ⟨[], Ns.nil W, Nat.zero_le _, fun _ h => by cases h⟩
  · simp only [List.cons.injEq, and_true] at hcs
    subst hcs
    simp only [if_true] at hmm
    subst hmm
    have hlb : len ≤ 140737488355328 := by
      rw [hx] at hsz
      simp only [DataW.weights, Try.underlying31] at hsz
      have := hsz _ (List.mem_cons_self ..)
      rw [Try.bytesNd] at this
      simp only [List.length_map, List.length_range, reachBytes] at this
      omega
    have each : ∀ i, i < len → ∃ x : Nd, (∀ j (hj : j < 5), W.cell? (a.add (i * 5 + j)) = (ndC x)[j]?) ∧ x.path.length ≤ maxLen ∧ x.data.length ≤ maxLen := by
      intro i hi
      obtain ⟨cs', h1, h2⟩ := hel i (by omega)
      rw [Try.cellsNd] at h1
      obtain ⟨_, hlen, hcell⟩ := World.cells?_some h1
      obtain ⟨x, rfl, h3, h4⟩ := nd_of hlen h2
      refine ⟨x, fun j hj => ?_, h3, h4⟩
      have := hcell j (by omega)
      rw [add_add] at this
      exact this
    obtain ⟨f, hfi⟩ : ∃ f : Nat → Nd, ∀ i, i < len → (∀ j (hj : j < 5), W.cell? (a.add (i * 5 + j)) = (ndC (f i))[j]?) ∧ (f i).path.length ≤ maxLen ∧ (f i).data.length ≤ maxLen := by
      haveI : Inhabited Nd := ⟨zeroNd⟩
      exact choose_lt each
    have hlen : ((List.range len).map f).length = len := by simp
    by_cases h0 : len = 0
    · subst h0
      exact ⟨[], ⟨some a, m, rfl, by simp, hm, .inl rfl⟩, Nat.zero_le _, fun _ h => by cases h⟩
    · have hc0 := (hfi 0 (by omega)).1 0 (by omega)
      have hc0 : W.cell? a = some (.string (B (f 0).path)) := by simpa [Addr.add, ndC, strV] using hc0
      have hlt := World.block_lt_of_cell? W a hc0
      obtain ⟨g, o, rfl⟩ := spot_none hc0
      refine ⟨(List.range len).map f, ⟨some ⟨g, o, none⟩, m, by rw [hlen], by rw [hlen]; exact hl, hm, .inr ⟨g, o, rfl, hlt, fun i hi => ?_⟩⟩, by rw [hlen]; exact hlb, fun x hx => ?_⟩
      · rw [hlen] at hi
        obtain ⟨k1, _, _⟩ := hfi i (by omega)
        simp only [List.getElem_map, List.getElem_range]
        have q0 := k1 0 (by omega)
        have q1 := k1 1 (by omega)
        have q2 := k1 2 (by omega)
        have q3 := k1 3 (by omega)
        have q4 := k1 4 (by omega)
        rw [Addr.add_lit] at q0 q1 q2 q3 q4
        exact ⟨by simpa [ndC] using q0, by simpa [Nat.add_assoc, ndC] using q1, by simpa [Nat.add_assoc, ndC] using q2, by simpa [Nat.add_assoc, ndC] using q3, by simpa [Nat.add_assoc, ndC] using q4⟩
      · obtain ⟨i, hi, rfl⟩ := List.mem_map.1 hx
        exact (hfi i (List.mem_range.1 hi)).2

/-- []Turn within, opened. -/
theorem open_turns_in {fuel : Nat} {v : Value} {y : DataW H × List MemPlace} (hf : DataW.trod enc Try.prog W 0 (fun _ => true) true fuel 32 [v] = some y) (hsz : ∀ n ∈ y.1.weights Try.prog 32, n ≤ reachBytes) :
    ∃ l, Ts W v l ∧ l.length ≤ 140737488355328 ∧ ∀ x ∈ l, x.dir.length ≤ maxLen := by
  rcases open_slice Try.underlying32 hf with ⟨hcs, hx⟩ | ⟨a, len, cap, m, n, D, Pl, hcs, _, hl, hm, hmm, hx, hel⟩
  · simp only [List.cons.injEq, and_true] at hcs
    subst hcs
    exact ⟨[], Ts.nil W, Nat.zero_le _, fun _ h => by cases h⟩
  · simp only [List.cons.injEq, and_true] at hcs
    subst hcs
    simp only [if_true] at hmm
    subst hmm
    have hlb : len ≤ 140737488355328 := by
      rw [hx] at hsz
      simp only [DataW.weights, Try.underlying32] at hsz
      have := hsz _ (List.mem_cons_self ..)
      rw [Try.bytesTu] at this
      simp only [List.length_map, List.length_range, reachBytes] at this
      omega
    have each : ∀ i, i < len → ∃ x : Tu, (∀ j (hj : j < 2), W.cell? (a.add (i * 2 + j)) = (tuC x)[j]?) ∧ x.dir.length ≤ maxLen := by
      intro i hi
      obtain ⟨cs', h1, h2⟩ := hel i (by omega)
      rw [Try.cellsTu] at h1
      obtain ⟨_, hlen, hcell⟩ := World.cells?_some h1
      obtain ⟨x, rfl, h3⟩ := tu_of hlen h2
      refine ⟨x, fun j hj => ?_, h3⟩
      have := hcell j (by omega)
      rw [add_add] at this
      exact this
    obtain ⟨f, hfi⟩ : ∃ f : Nat → Tu, ∀ i, i < len → (∀ j (hj : j < 2), W.cell? (a.add (i * 2 + j)) = (tuC (f i))[j]?) ∧ (f i).dir.length ≤ maxLen := by
      haveI : Inhabited Tu := ⟨⟨[], 0⟩⟩
      exact choose_lt each
    have hlen : ((List.range len).map f).length = len := by simp
    by_cases h0 : len = 0
    · subst h0
      exact ⟨[], ⟨some a, m, rfl, by simp, hm, .inl rfl⟩, Nat.zero_le _, fun _ h => by cases h⟩
    · have hc0 := (hfi 0 (by omega)).1 0 (by omega)
      have hc0 : W.cell? a = some (.string (B (f 0).dir)) := by simpa [Addr.add, tuC, strV] using hc0
      have hlt := World.block_lt_of_cell? W a hc0
      obtain ⟨g, o, rfl⟩ := spot_none hc0
      refine ⟨(List.range len).map f, ⟨some ⟨g, o, none⟩, m, by rw [hlen], by rw [hlen]; exact hl, hm, .inr ⟨g, o, rfl, hlt, fun i hi => ?_⟩⟩, by rw [hlen]; exact hlb, fun x hx => ?_⟩
      · rw [hlen] at hi
        obtain ⟨k1, _⟩ := hfi i (by omega)
        simp only [List.getElem_map, List.getElem_range]
        have q0 := k1 0 (by omega)
        have q1 := k1 1 (by omega)
        rw [Addr.add_lit] at q0 q1
        exact ⟨by simpa [tuC] using q0, by simpa [Nat.add_assoc, tuC] using q1⟩
      · obtain ⟨i, hi, rfl⟩ := List.mem_map.1 hx
        exact (hfi i (List.mem_range.1 hi)).2

end
end Go.Proofs.Ytdfnfkknbjageaa

/- The document's up, Home, node; GreatPart. -/

namespace Go.Proofs.Ytdfnfkknbjageaa
set_option maxRecDepth 20000
set_option linter.unusedVariables false
set_option linter.unusedSimpArgs false
open Go.RowKit Pm

set_option maxHeartbeats 2000000 in
theorem GreatPart_c (x : Pt) (w : World) :
    Calls Try.prog 52 #[ptV x] w fun e w' => ∃ c, e = .returned (.bool c) ∧ (c = false → x.dir.length ≤ 3000 ∧ x.path.length ≤ 3000 ∧ x.data.length ≤ 3000) ∧ Fp Non w w' := by
  obtain ⟨kk, di, p, d, v, ow, t⟩ := x
  unfold ptV strV
  by_cases h0 : 3000 < di.length
  · have q1 : (3000 < di.length) = True := eq_true h0
    have q2 : ((3000 : Int) < (di.length : Int)) = True := eq_true (by omega)
    clear h0
    go_enter Try.func52, Try.ntmps52
    go_wp2
    go_ret
    exact ⟨_, rfl, fun h => by simp at h, (Fp.refl Non w).alloc _⟩
  have q1 : (3000 < di.length) = False := eq_false h0
  have q2 : ((3000 : Int) < (di.length : Int)) = False := eq_false (by omega)
  by_cases h1 : 3000 < p.length
  · have q3 : (3000 < p.length) = True := eq_true h1
    have q4 : ((3000 : Int) < (p.length : Int)) = True := eq_true (by omega)
    clear h0 h1
    go_enter Try.func52, Try.ntmps52
    go_wp2
    go_ret
    exact ⟨_, rfl, fun h => by simp at h, (Fp.refl Non w).alloc _⟩
  have q3 : (3000 < p.length) = False := eq_false h1
  have q4 : ((3000 : Int) < (p.length : Int)) = False := eq_false (by omega)
  by_cases h2 : 3000 < d.length
  · have q5 : (3000 < d.length) = True := eq_true h2
    have q6 : ((3000 : Int) < (d.length : Int)) = True := eq_true (by omega)
    clear h0 h1 h2
    go_enter Try.func52, Try.ntmps52
    go_wp2
    go_ret
    exact ⟨_, rfl, fun h => by simp at h, (Fp.refl Non w).alloc _⟩
  have q5 : (3000 < d.length) = False := eq_false h2
  have q6 : ((3000 : Int) < (d.length : Int)) = False := eq_false (by omega)
  have HL := Lib.hid (show di.length ≤ 3000 ∧ p.length ≤ 3000 ∧ d.length ≤ 3000 by omega)
  clear h0 h1 h2
  go_enter Try.func52, Try.ntmps52
  go_wp2
  go_ret
  exact ⟨_, rfl, fun _ => HL.out, (Fp.refl Non w).alloc _⟩
end Go.Proofs.Ytdfnfkknbjageaa

/- Is a store too great? The document's Right. -/
namespace Go.Proofs.Ytdfnfkknbjageaa
set_option maxRecDepth 20000
set_option linter.unusedVariables false
set_option linter.unusedSimpArgs false
open Go.RowKit Pm

/-- Ahead of round k of Great. -/
structure GtM (l : List Tu) (w : World) (k : Nat) (N : Int) (wr : World) : Prop where
  fp : Fp Non w wr
  lo : (l.length : Int) ≤ N
  eq : ∀ j (h : j < l.length), j < k → min (l[j].dir.length : Int) 3000 ≤ N
theorem min3 (a : Nat) : (0 : Int) ≤ min (a : Int) 3000 ∧ min (a : Int) 3000 ≤ 3000 := by omega
theorem GtM.next {l : List Tu} {w wr wr' : World} {k : Nat} {N : Int} (h : GtM l w k N wr) (f : Fp Non wr wr') (hk : k < l.length) :
    GtM l w (k + 1) (N + min (l[k].dir.length : Int) 3000) wr' := by
  have hN : 0 ≤ N := by have := h.lo; omega
  have m1 := min3 l[k].dir.length
  refine ⟨h.fp.then f, by have := h.lo; omega, fun j hj hjk => ?_⟩
  rcases Nat.lt_or_eq_of_le (show j ≤ k by omega) with e | e
  · have := h.eq j hj e
    omega
  · subst e
    omega
theorem GtM.few {l : List Tu} {w wr : World} {k : Nat} {N : Int} (h : GtM l w k N wr) (hk : k = l.length) (hN : N < 3000) : l.length ≤ 3000 ∧ ∀ x ∈ l, x.dir.length ≤ 3000 := by
  refine ⟨by have := h.lo; omega, fun x hx => ?_⟩
  obtain ⟨j, hj, rfl⟩ := List.getElem_of_mem hx
  have := h.eq j hj (by omega)
  omega
/-- A store that isn't too great. -/
structure Gfew (s : St) : Prop where
  turns : s.turns.length ≤ 3000 ∧ ∀ x ∈ s.turns, x.dir.length ≤ 3000
  nodes : s.nodes.length ≤ 1667 ∧ ∀ x ∈ s.nodes, x.path.length ≤ 5000 ∧ x.data.length ≤ 5000

set_option maxHeartbeats 6000000 in
theorem GreatS_c (v : Value) (s : St) (w : World) (hv : Sto w v s) (hn : s.nodes.length ≤ 140737488355328) (ht : s.turns.length ≤ 140737488355328) :
    Calls Try.prog 36 #[v] w fun e w' => ∃ g : Bool, e = .returned (.bool g) ∧ (g = false → Gfew s) ∧ Fp Non w w' := by
  obtain ⟨vn, vt, rfl, h1, h2⟩ := hv.ex
  obtain ⟨at_, ct, rfl⟩ := h2.shape
  obtain ⟨n, hnn⟩ : ∃ n, n = s.turns.length := ⟨_, rfl⟩
  have hbx := heap_alloc_new w (.cells #[vn, .slice at_ s.turns.length ct] 34)
  have hfa := fp_alloc w (.cells #[vn, .slice at_ s.turns.length ct] 34)
  have hgr := fun w' (f : Fp Non w w') => Great_c vn s.nodes w' (h1.non f) hn
  have h2' := h2
  rw [← hnn] at h2' hbx hfa
  have HX := Lib.hid (And.intro hnn (And.intro h2' (And.intro hgr (And.intro hbx hfa))))
  rw [← hnn]
  have hnb : n ≤ 140737488355328 := by omega
  clear h1 h2 h2' hn ht hnn hv hbx hfa hgr
  go_enter Try.func36, Try.ntmps36
  go_wp2_with fail
  go_loopw [3, 4] (fun m i wr => ∃ k : Nat, k ≤ n ∧ i = .int .i64 k ∧ ∃ N : Int, m = .int .i64 N ∧ (0 ≤ N ∧ N ≤ 140737488355328) ∧ Hid (GtM s.turns w k N wr ∧ wr.heap[w.heap.size]? = some (.cells #[vn, .slice at_ n ct] 34 (0, 0)))) (fun _ i _ => n - (RowKit.intOf i).toNat)
  case atStart => exact ⟨0, Nat.zero_le _, rfl, (n : Int), by go_num, by omega, ⟨HX.out.2.2.2.2, by rw [HX.out.1]; exact Int.le_refl _, fun j _ h => absurd h (Nat.not_lt_zero j)⟩, HX.out.2.2.2.1⟩
  case round =>
    obtain ⟨k, hk, rfl, N, rfl, hN, hR⟩ := hrel
    rename_i wr _
    have r0 : wr.cell? ⟨w.heap.size, 0, none⟩ = some vn := by rw [cell_of_row _ _ _ _ _ _ hR.out.2]; rfl
    have r1 : wr.cell? ⟨w.heap.size, 1, none⟩ = some (.slice at_ n ct) := by rw [cell_of_row _ _ _ _ _ _ hR.out.2]; rfl
    by_cases hlt : k < n
    · have hkl : k < s.turns.length := by rw [← HX.out.1]; exact hlt
      have q3 : ((k : Int) < (n : Int)) = True := eq_true (by omega)
      have q4 : (k < n) = True := eq_true hlt
      by_cases hN5 : N < 3000
      · have q5 : (N < 3000) = True := eq_true hN5
        obtain ⟨g, o, cap', e, _, _, _, hcell⟩ := (HX.out.2.1.non hR.out.1.fp).at (by omega)
        injection e with e1 e2 e3
        subst e1 e3
        have hnd := hcell k hkl
        clear hcell e2
        have hnx := fun wr' f => hR.out.1.next (wr' := wr') f hkl
        have HNX := Lib.hid hnx
        have HL := Lib.hid (And.intro hlt hN5)
        clear hnx hlt hN5
        generalize s.turns[k] = x at *
        clear hkl
        have c0 := hnd.c0
        unfold strV at c0
        have HB := Lib.hid (min3 x.dir.length)
        clear hnd
        go_wp2
        have hb := HB.out
        have hj := HL.out
        go_roundw
        case rel => exact ⟨k + 1, by omega, by go_num, _, rfl, ⟨by omega, by omega⟩, HNX.out _ (Fp.refl _ _), hR.out.2⟩
        case measure => simp [RowKit.intOf]; omega
      · have q5 : (N < 3000) = False := eq_false hN5
        have q6 : ((3000 : Int) ≤ N) = True := eq_true (by omega)
        clear hN5 hkl hlt
        go_wp2
        go_ret
        exact ⟨true, rfl, fun h => by simp at h, hR.out.1.fp⟩
    · have hke : k = n := by omega
      subst hke
      have q3 : ((k : Int) < (k : Int)) = False := eq_false (by omega)
      by_cases hN5 : N < 3000
      · have q6 : ((3000 : Int) ≤ N) = False := eq_false (by omega)
        have hfw := hR.out.1.few HX.out.1 hN5
        have HFW := Lib.hid hfw
        clear hfw hN5 hlt hk
        go_wp2_with fail
        refine (HX.out.2.2.1 _ hR.out.1.fp).mono ?_
        rintro e w1 ⟨g, rfl, hg, hf⟩
        have HG := Lib.hid (And.intro hg (hR.out.1.fp.then hf))
        clear hg hf r0 r1
        go_wp2
        go_ret
        exact ⟨g, rfl, fun h => ⟨HFW.out, HG.out.1 h⟩, HG.out.2⟩
      · have q6 : ((3000 : Int) ≤ N) = True := eq_true (by omega)
        clear hN5 hlt hk
        go_wp2
        go_ret
        exact ⟨true, rfl, fun h => by simp at h, hR.out.1.fp⟩
end Go.Proofs.Ytdfnfkknbjageaa

/- Is a command too much? (gen_gs.py) -/
namespace Go.Proofs.Ytdfnfkknbjageaa
set_option maxRecDepth 20000
set_option linter.unusedVariables false
set_option linter.unusedSimpArgs false
open Go.RowKit Pm

set_option maxHeartbeats 4000000 in
theorem GreatPs_c (v : Value) (p : List Pe) (w : World) (hv : Sg peC 8 w v p) (hlen : p.length ≤ 140737488355328) :
    Calls Try.prog 35 #[v] w fun e w' => ∃ g : Bool, e = .returned (.bool g) ∧ (g = false → p.length ≤ 60 ∧ ∀ x ∈ p, x.p.dir.length ≤ 3000 ∧ x.p.path.length ≤ 3000 ∧ x.p.data.length ≤ 3000) ∧ Fp Non w w' := by
  obtain ⟨ao, cap, rfl⟩ := hv.shape
  obtain ⟨n, hnn⟩ : ∃ n, n = p.length := ⟨_, rfl⟩
  have HX := Lib.hid (And.intro hnn hv)
  rw [← hnn] at hlen ⊢
  clear hv hnn
  go_enter Try.func35, Try.ntmps35
  by_cases h60 : n ≤ 60
  · have t1 : ((60 : Int) < (n : Int)) = False := eq_false (by omega)
    have t2 : (60 < n) = False := eq_false (by omega)
    clear hlen
    go_wp2_with fail
    go_loopw [3] (fun i wr => ∃ k : Nat, k ≤ n ∧ i = .int .i64 k ∧ Hid (Fp Non w wr ∧ ∀ j (h : j < p.length), j < k → p[j].p.dir.length ≤ 3000 ∧ p[j].p.path.length ≤ 3000 ∧ p[j].p.data.length ≤ 3000)) (fun i _ => n - (RowKit.intOf i).toNat)
    case atStart => exact ⟨0, Nat.zero_le _, rfl, Fp.refl _ _, fun j _ h => absurd h (Nat.not_lt_zero j)⟩
    case round =>
      obtain ⟨k, hk, rfl, hR⟩ := hrel
      rename_i wr _
      by_cases hlt : k < n
      · have hkl : k < p.length := by rw [← HX.out.1]; exact hlt
        obtain ⟨g, o, cap', e, hcell⟩ := HX.out.2.at (by omega)
        injection e with e1 e2 e3
        subst e1 e3
        obtain ⟨c0, c1, c2, c3, c4, c5, c6, c7⟩ := pe_cells ((hcell k hkl).keep hR.out.1 (fun h => h))
        have hstep : (p[k].p.dir.length ≤ 3000 ∧ p[k].p.path.length ≤ 3000 ∧ p[k].p.data.length ≤ 3000) → ∀ j (h : j < p.length), j < k + 1 → p[j].p.dir.length ≤ 3000 ∧ p[j].p.path.length ≤ 3000 ∧ p[j].p.data.length ≤ 3000 := fun h j hj hjk => by
          rcases Nat.lt_or_eq_of_le (show j ≤ k by omega) with e | e
          · exact hR.out.2 j hj e
          · subst e; exact h
        generalize p[k] = x at *
        obtain ⟨x0, x⟩ := x
        have hc := fun w => GreatPart_c x w
        unfold ptV strV at hc
        obtain ⟨x1, x2, x3, x4, x5, x6, x7⟩ := x
        simp only at hc hstep c0 c1 c2 c3 c4 c5 c6 c7
        have q3 : ((k : Int) < (n : Int)) = True := eq_true (by omega)
        have q4 : (k < n) = True := eq_true hlt
        have HL := Lib.hid (And.intro hlt (And.intro h60 hstep))
        have HC := Lib.hid hc
        clear hc hlt hkl hcell hstep
        go_wp2_with fail
        refine (HC.out _).mono ?_
        rintro e w1 ⟨b, rfl, hb, hf⟩
        have HF := Lib.hid (And.intro (hR.out.1.then hf) hb)
        clear hf hb
        cases b with
        | true =>
          go_wp2
          go_ret
          exact ⟨true, rfl, fun h => Bool.noConfusion h, HF.out.1⟩
        | false =>
          have hkn := HL.out.1
          go_wp2
          go_roundw
          case rel => exact ⟨k + 1, by omega, by go_num, HF.out.1, HL.out.2.2 (HF.out.2 (by trivial))⟩
          case measure => simp [RowKit.intOf]; omega
      · have hke : k = n := by omega
        subst hke
        have q3 : ((k : Int) < (k : Int)) = False := eq_false (by omega)
        have H6 := Lib.hid h60
        clear hlt hk h60
        go_wp2
        go_ret
        exact ⟨false, rfl, fun _ => ⟨H6.out, fun x hx => by
          obtain ⟨j, hj, rfl⟩ := List.getElem_of_mem hx
          exact hR.out.2 j hj (by rw [HX.out.1]; exact hj)⟩, hR.out.1⟩
  · have t1 : ((60 : Int) < (n : Int)) = True := eq_true (by omega)
    have t2 : (60 < n) = True := eq_true (by omega)
    clear hlen h60
    go_wp2
    go_ret
    exact ⟨true, rfl, fun h => Bool.noConfusion h, Fp.refl _ _⟩

/-- Ahead of round k. -/
structure GgM (l : List Bs) (w : World) (k : Nat) (N : Int) (wr : World) : Prop where
  fp : Fp Non w wr
  lo : (l.length : Int) ≤ N
  eq : ∀ j (h : j < l.length), j < k → min (l[j].length : Int) 3000 ≤ N
theorem mn3 (a : Nat) : (0 : Int) ≤ min (a : Int) 3000 ∧ min (a : Int) 3000 ≤ 3000 := by omega
theorem GgM.next {l : List Bs} {w wr wr' : World} {k : Nat} {N : Int} (h : GgM l w k N wr) (f : Fp Non wr wr') (hk : k < l.length) : GgM l w (k + 1) (N + min (l[k].length : Int) 3000) wr' := by
  have hN : 0 ≤ N := by have := h.lo; omega
  have m1 := mn3 l[k].length
  refine ⟨h.fp.then f, by have := h.lo; omega, fun j hj hjk => ?_⟩
  rcases Nat.lt_or_eq_of_le (show j ≤ k by omega) with e | e
  · have := h.eq j hj e; omega
  · subst e; omega
theorem GgM.few {l : List Bs} {w wr : World} {k : Nat} {N : Int} (h : GgM l w k N wr) (hk : k = l.length) (hN : N < 3000) : l.length ≤ 3000 ∧ ∀ x ∈ l, x.length ≤ 3000 := by
  refine ⟨by have := h.lo; omega, fun x hx => ?_⟩
  obtain ⟨j, hj, rfl⟩ := List.getElem_of_mem hx
  have := h.eq j hj (by omega)
  omega

/-- Lengths that the arguments' reading bounds. -/
structure Ln (c : Cd) : Prop where
  ps : c.ps.length ≤ 140737488355328
  nodes : c.st.nodes.length ≤ 140737488355328
  turns : c.st.turns.length ≤ 140737488355328
  gone : c.gone.length ≤ 140737488355328

set_option maxHeartbeats 16000000 in
theorem cGreat_c (v : Value) (c : Cd) (w : World) (hv : CdW w v c) (hln : Ln c) :
    Calls Try.prog 21 #[v] w fun e w' => ∃ g : Bool, e = .returned (.bool g) ∧ (g = false → Fw c) ∧ Fp Non w w' := by
  obtain ⟨vp, vn, vt, vg, rfl, f1, f2, f3, f4⟩ := hv.ex
  have hgp := fun W (f : Fp Non w W) => GreatPs_c vp c.ps W (f1.non f) hln.ps
  have hgs := fun W (f : Fp Non w W) => GreatS_c (.agg #[vn, vt]) c.st W ⟨_, _, rfl, f2.non f, f3.non f⟩ hln.nodes hln.turns
  obtain ⟨ap, cp, rfl⟩ := f1.shape
  obtain ⟨an, cn, rfl⟩ := f2.shape
  obtain ⟨at', ct, rfl⟩ := f3.shape
  obtain ⟨ag, cg, rfl⟩ := f4.shape
  have hnb := hln.gone
  obtain ⟨k, i, t, a, y, ps, pre, ep, to, ⟨ns, ts⟩, gn, ws, wn, wp, dp⟩ := c
  simp only [cdL] at hgp hgs f4 hnb ⊢
  obtain ⟨n, hnn⟩ : ∃ n, n = gn.length := ⟨_, rfl⟩
  have hbx := heap_alloc_new w (.cells #[.int .i64 k, .int .i64 i, .int .i64 t, .int .i64 a, .bool y, .slice ap ps.length cp, .string (B pre), .int .i64 ep, .int .i64 to, .slice an ns.length cn, .slice at' ts.length ct, .slice ag gn.length cg, .int .i64 ws, .int .i64 wn, .string (B wp), .bool dp] TCD)
  have hfa := fp_alloc w (.cells #[.int .i64 k, .int .i64 i, .int .i64 t, .int .i64 a, .bool y, .slice ap ps.length cp, .string (B pre), .int .i64 ep, .int .i64 to, .slice an ns.length cn, .slice at' ts.length ct, .slice ag gn.length cg, .int .i64 ws, .int .i64 wn, .string (B wp), .bool dp] TCD)
  rw [← hnn] at hbx hfa hnb f4
  have HX := Lib.hid (And.intro hnn (And.intro f4 (And.intro hgp (And.intro hgs (And.intro hbx hfa)))))
  rw [← hnn]
  clear f1 f2 f3 f4 hv hln hnn hbx hfa hgp hgs
  go_enter Try.func21, Try.ntmps21
  go_wp2_with fail
  go_loopw [3, 4] (fun m i_ wr => ∃ j : Nat, j ≤ n ∧ i_ = .int .i64 j ∧ ∃ N : Int, m = .int .i64 N ∧ (0 ≤ N ∧ N ≤ 140737488355328) ∧ Hid (GgM gn w j N wr ∧ wr.heap[w.heap.size]? = some (.cells #[.int .i64 k, .int .i64 i, .int .i64 t, .int .i64 a, .bool y, .slice ap ps.length cp, .string (B pre), .int .i64 ep, .int .i64 to, .slice an ns.length cn, .slice at' ts.length ct, .slice ag n cg, .int .i64 ws, .int .i64 wn, .string (B wp), .bool dp] TCD (0, 0)))) (fun _ i_ _ => n - (RowKit.intOf i_).toNat)
  case atStart => exact ⟨0, Nat.zero_le _, rfl, (n : Int), by go_num, by omega, ⟨HX.out.2.2.2.2.2, by rw [HX.out.1]; exact Int.le_refl _, fun j _ h => absurd h (Nat.not_lt_zero j)⟩, HX.out.2.2.2.2.1⟩
  case round =>
    obtain ⟨j, hk, rfl, N, rfl, hN, hR⟩ := hrel
    rename_i wr _
    have r5 : wr.cell? ⟨w.heap.size, 5, none⟩ = some (.slice ap ps.length cp) := by rw [cell_of_row _ _ _ _ _ _ hR.out.2]; rfl
    have r6 : wr.cell? ⟨w.heap.size, 6, none⟩ = some (.string (B pre)) := by rw [cell_of_row _ _ _ _ _ _ hR.out.2]; rfl
    have r11 : wr.cell? ⟨w.heap.size, 11, none⟩ = some (.slice ag n cg) := by rw [cell_of_row _ _ _ _ _ _ hR.out.2]; rfl
    have r14 : wr.cell? ⟨w.heap.size, 14, none⟩ = some (.string (B wp)) := by rw [cell_of_row _ _ _ _ _ _ hR.out.2]; rfl
    by_cases hlt : j < n
    · have hkl : j < gn.length := by rw [← HX.out.1]; exact hlt
      have q3 : ((j : Int) < (n : Int)) = True := eq_true (by omega)
      have q4 : (j < n) = True := eq_true hlt
      by_cases hN5 : N < 3000
      · have q5 : (N < 3000) = True := eq_true hN5
        have hf4 := HX.out.2.1.non hR.out.1.fp
        obtain ⟨g, o, cap', e, hcell⟩ := hf4.at (by rw [← HX.out.1]; omega)
        injection e with e1 e2 e3
        subst e1 e3
        have c0 := hcell j hkl
        clear hcell e2 hf4
        have hnx := fun wr' f => hR.out.1.next (wr' := wr') f hkl
        have HNX := Lib.hid hnx
        have HL := Lib.hid (And.intro hlt hN5)
        clear hnx hlt hN5
        generalize gn[j] = x at *
        clear hkl
        have HB := Lib.hid (mn3 x.length)
        go_wp2
        have hb := HB.out
        have hj := HL.out
        go_roundw
        case rel => exact ⟨j + 1, by omega, by go_num, _, rfl, ⟨by omega, by omega⟩, HNX.out _ (Fp.refl _ _), hR.out.2⟩
        case measure => simp [RowKit.intOf]; omega
      · have q5 : (N < 3000) = False := eq_false hN5
        have q6 : ((3000 : Int) ≤ N) = True := eq_true (by omega)
        clear hN5 hkl hlt
        go_wp2
        go_ret
        exact ⟨true, rfl, fun h => by simp at h, hR.out.1.fp⟩
    · have hke : j = n := by omega
      subst hke
      have q3 : ((j : Int) < (j : Int)) = False := eq_false (by omega)
      by_cases hN5 : N < 3000
      · have q6 : ((3000 : Int) ≤ N) = False := eq_false (by omega)
        have hfw := hR.out.1.few HX.out.1 hN5
        have HFW := Lib.hid hfw
        clear hfw hN5 hlt hk hN
        by_cases hp : 3000 < pre.length
        · have p1 : ((3000 : Int) < (pre.length : Int)) = True := eq_true (by omega)
          have p2 : (3000 < pre.length) = True := eq_true hp
          clear hp
          go_wp2
          go_ret
          exact ⟨true, rfl, fun h => by simp at h, hR.out.1.fp⟩
        have p1 : ((3000 : Int) < (pre.length : Int)) = False := eq_false (by omega)
        have p2 : (3000 < pre.length) = False := eq_false hp
        by_cases hw : 3000 < wp.length
        · have p3 : ((3000 : Int) < (wp.length : Int)) = True := eq_true (by omega)
          have p4 : (3000 < wp.length) = True := eq_true hw
          clear hp hw
          go_wp2
          go_ret
          exact ⟨true, rfl, fun h => by simp at h, hR.out.1.fp⟩
        have p3 : ((3000 : Int) < (wp.length : Int)) = False := eq_false (by omega)
        have p4 : (3000 < wp.length) = False := eq_false hw
        have HP := Lib.hid (And.intro hp hw)
        clear hp hw
        go_wp2_with fail
        refine (HX.out.2.2.1 _ hR.out.1.fp).mono ?_
        rintro e w1 ⟨g1, rfl, hg1, hf1⟩
        have hb1 := hf1.heap hR.out.2 (fun h => h)
        have HG1 := Lib.hid (And.intro hg1 (hR.out.1.fp.then hf1))
        have s9 : w1.cell? ⟨w.heap.size, 9, none⟩ = some (.slice an ns.length cn) := by rw [cell_of_row _ _ _ _ _ _ hb1]; rfl
        have s10 : w1.cell? ⟨w.heap.size, 10, none⟩ = some (.slice at' ts.length ct) := by rw [cell_of_row _ _ _ _ _ _ hb1]; rfl
        clear hg1 hf1 hb1 r5 r6 r11 r14
        cases g1 with
        | true =>
          go_wp2
          go_ret
          exact ⟨true, rfl, fun h => by simp at h, HG1.out.2⟩
        | false =>
          go_wp2_with fail
          refine (HX.out.2.2.2.1 _ HG1.out.2).mono ?_
          rintro e w2 ⟨g2, rfl, hg2, hf2⟩
          have HG2 := Lib.hid (And.intro hg2 (HG1.out.2.then hf2))
          clear hg2 hf2 s9 s10
          go_wp2
          go_ret
          exact ⟨g2, rfl, fun h => by
            have k1 := HG1.out.1 (by trivial)
            have k2 := HG2.out.1 h
            have k3 := HFW.out
            have k4 := HP.out
            exact ⟨by show pre.length ≤ 140737488355328; omega, by show wp.length ≤ 140737488355328; omega, by have := k1.1; show ps.length ≤ 140737488355328; omega, fun x hx => by have := k1.2 x hx; omega, by have := k2.nodes.1; show ns.length ≤ 140737488355328; simp only at this; omega, fun x hx => by have := k2.nodes.2 x hx; omega, by have := k2.turns.1; show ts.length ≤ 140737488355328; simp only at this; omega, fun x hx => by have := k2.turns.2 x hx; omega, by have := k3.1; show gn.length ≤ 140737488355328; omega, fun x hx => by have := k3.2 x hx; omega⟩, HG2.out.2⟩
      · have q6 : ((3000 : Int) ≤ N) = True := eq_true (by omega)
        clear hN5 hlt hk
        go_wp2
        go_ret
        exact ⟨true, rfl, fun h => by simp at h, hR.out.1.fp⟩
end Go.Proofs.Ytdfnfkknbjageaa

/- The arguments of the laws: commands, pieces, bytes. (gen_gv.py) -/
namespace Go.Proofs.Ytdfnfkknbjageaa
set_option maxRecDepth 20000
set_option linter.unusedVariables false
set_option linter.unusedSimpArgs false
open Go.ChangeShapes Go.WideShapes Go.ChangeAt Go.RowKit Pm Go.Deep
open Go.WideMaps Go.WideElems
open Go.ChangeMaps (setBlock shut_map_nil open_string shut_string)

theorem Try.cellsPc : Try.prog.cellsOf 101 = 8 := by kernel_rfl
theorem Try.bytesPc : Try.prog.bytesOf 101 = 88 := by kernel_rfl
theorem Try.bytesSt : Try.prog.bytesOf 9 = 16 := by kernel_rfl
theorem Try.cellsCd : Try.prog.cellsOf 45 = 16 := by kernel_rfl
theorem Try.cellsWt : Try.prog.cellsOf 43 = 4 := by kernel_rfl
theorem Try.cellsPs : Try.prog.cellsOf 40 = 1 := by kernel_rfl
theorem Try.cellsGs : Try.prog.cellsOf 41 = 1 := by kernel_rfl
section
variable {H : Type} {enc : TypeId × Value → H} {W : World}

theorem pt_of {n : Nat} {cs : List Value} {y : DataW H × List MemPlace} (hlen : cs.length = 7) (h : DataW.trod enc Try.prog W 0 (fun _ => true) true n 99 cs = some y) : ∃ x : Pt, cs = ptC x := by
  obtain ⟨xs, k, hk, hxy, _, hxl, hf⟩ := DataW.trod_struct Try.underlying99 h
  match xs, hxl, cs, hlen with
  | [y0, y1, y2, y3, y4, y5, y6], _, [v0, v1, v2, v3, v4, v5, v6], _ =>
    have g0 := hf 0 _ rfl
    have g1 := hf 1 _ rfl
    have g2 := hf 2 _ rfl
    have g3 := hf 3 _ rfl
    have g4 := hf 4 _ rfl
    have g5 := hf 5 _ rfl
    have g6 := hf 6 _ rfl
    simp [Try.cellsInt] at g0
    simp [Try.cellsStr'] at g1
    simp [Try.cellsStr'] at g2
    simp [Try.cellsStr'] at g3
    simp [Try.cellsI64] at g4
    simp [Try.cellsI64] at g5
    simp [Try.cellsBoo] at g6
    obtain ⟨z0, e0, _, _⟩ := DataW.trod_int Try.underlying3 g0
    obtain ⟨z1, e1, _, h1⟩ := DataW.trod_string Try.underlying9 g1
    obtain ⟨z2, e2, _, h2⟩ := DataW.trod_string Try.underlying9 g2
    obtain ⟨z3, e3, _, h3⟩ := DataW.trod_string Try.underlying9 g3
    obtain ⟨z4, e4, _, _⟩ := DataW.trod_int Try.underlying2 g4
    obtain ⟨z5, e5, _, _⟩ := DataW.trod_int Try.underlying2 g5
    obtain ⟨z6, e6, _⟩ := DataW.trod_bool Try.underlying4 g6
    simp only [List.cons.injEq, and_true] at e0 e1 e2 e3 e4 e5 e6
    subst e0 e1 e2 e3 e4 e5 e6
    refine ⟨⟨z0, z1.data.toList, z2.data.toList, z3.data.toList, z4, z5, z6⟩, ?_⟩
    unfold ptC strV; rw [← B_of, ← B_of, ← B_of]
theorem pc_of {n : Nat} {cs : List Value} {y : DataW H × List MemPlace} (hlen : cs.length = 8) (h : DataW.trod enc Try.prog W 0 (fun _ => true) true n 101 cs = some y) : ∃ x : Pe, cs = peC x := by
  obtain ⟨xs, k, hk, hxy, _, hxl, hf⟩ := DataW.trod_struct Try.underlying101 h
  match xs, hxl, cs, hlen with
  | [y0, y1], _, [v0, v1, v2, v3, v4, v5, v6, v7], _ =>
    have g0 := hf 0 _ rfl
    have g1 := hf 1 _ rfl
    simp [Try.cellsInt] at g0
    simp [Try.cellsInt, Try.cellsPt] at g1
    obtain ⟨z0, e0, _, _⟩ := DataW.trod_int Try.underlying3 g0
    obtain ⟨z1, e1⟩ := pt_of rfl g1
    simp only [List.cons.injEq, and_true] at e0
    subst e0
    exact ⟨⟨z0, z1⟩, by unfold peC; rw [e1]⟩

/-- []Piece within, opened. -/
theorem open_pieces_in {fuel : Nat} {v : Value} {y : DataW H × List MemPlace} (hf : DataW.trod enc Try.prog W 0 (fun _ => true) true fuel 40 [v] = some y) (hsz : ∀ n ∈ y.1.weights Try.prog 40, n ≤ reachBytes) :
    ∃ l, Sg peC 8 W v l ∧ l.length ≤ 140737488355328 := by
  rcases open_slice Try.underlying40 hf with ⟨hcs, hx⟩ | ⟨a, len, cap, m, n, D, Pl, hcs, _, hl, hm, hmm, hx, hel⟩
  · simp only [List.cons.injEq, and_true] at hcs
    subst hcs
    exact ⟨[], Sg.nil W, Nat.zero_le _⟩
  · simp only [List.cons.injEq, and_true] at hcs
    subst hcs
    simp only [if_true] at hmm
    subst hmm
    have hlb : len ≤ 140737488355328 := by
      rw [hx] at hsz
      simp only [DataW.weights, Try.underlying40] at hsz
      have := hsz _ (List.mem_cons_self ..)
      rw [Try.bytesPc] at this
      simp only [List.length_map, List.length_range, reachBytes] at this
      omega
    have each : ∀ i, i < len → ∃ x : Pe, (∀ j (hj : j < 8), W.cell? (a.add (i * 8 + j)) = (peC x)[j]?) := by
      intro i hi
      obtain ⟨cs', h1, h2⟩ := hel i (by omega)
      rw [Try.cellsPc] at h1
      obtain ⟨_, hlen, hcell⟩ := World.cells?_some h1
      obtain ⟨x, rfl⟩ := pc_of hlen h2
      refine ⟨x, fun j hj => ?_⟩
      have := hcell j (by omega)
      rw [add_add] at this
      exact this
    obtain ⟨f, hfi⟩ : ∃ f : Nat → Pe, ∀ i, i < len → (∀ j (hj : j < 8), W.cell? (a.add (i * 8 + j)) = (peC (f i))[j]?) := by
      haveI : Inhabited Pe := ⟨⟨0, ⟨0, [], [], [], 0, 0, false⟩⟩⟩
      exact choose_lt each
    have hlen : ((List.range len).map f).length = len := by simp
    by_cases h0 : len = 0
    · subst h0
      exact ⟨[], ⟨some a, m, rfl, .inl rfl⟩, Nat.zero_le _⟩
    · have hc0 := hfi 0 (by omega) 0 (by omega)
      have hc0 : W.cell? a = some (.int .i64 (f 0).op) := by simpa [Addr.add, peC] using hc0
      obtain ⟨g, o, rfl⟩ := spot_none hc0
      refine ⟨(List.range len).map f, ⟨some ⟨g, o, none⟩, m, by rw [hlen], .inr ⟨g, o, rfl, fun i hi => ⟨fun j u hu => ?_⟩⟩⟩, by rw [hlen]; exact hlb⟩
      rw [hlen] at hi
      simp only [List.getElem_map, List.getElem_range] at hu
      have hj : j < 8 := by rw [← peC_len (f i)]; exact (List.getElem?_eq_some_iff.1 hu).1
      have := hfi i hi j hj
      rw [Addr.add_lit, ← Nat.add_assoc] at this
      rw [this]; exact hu

/-- []string within, opened. -/
theorem open_strings_in {fuel : Nat} {v : Value} {y : DataW H × List MemPlace} (hf : DataW.trod enc Try.prog W 0 (fun _ => true) true fuel 41 [v] = some y) (hsz : ∀ n ∈ y.1.weights Try.prog 41, n ≤ reachBytes) :
    ∃ l, Tx W v l ∧ l.length ≤ 140737488355328 := by
  rcases open_strs Try.underlying41 Try.underlying9 Try.cellsStr' hf with ⟨hcs, hx⟩ | ⟨a, len, cap, m, Sx, hcs, _, hl, hm, hmm, hx, hcell⟩
  · simp only [List.cons.injEq, and_true] at hcs
    subst hcs
    exact ⟨[], ⟨none, 0, rfl, .inl rfl⟩, Nat.zero_le _⟩
  · simp only [List.cons.injEq, and_true] at hcs
    subst hcs
    simp only [if_true] at hmm
    subst hmm
    have hlb : len ≤ 140737488355328 := by
      rw [hx] at hsz
      simp only [DataW.weights, Try.underlying41] at hsz
      have := hsz _ (List.mem_cons_self ..)
      rw [Try.bytesSt] at this
      simp only [List.length_map, List.length_range, reachBytes] at this
      omega
    have hlen : ((List.range len).map fun i => (Sx i).data.toList).length = len := by simp
    by_cases h0 : len = 0
    · subst h0
      exact ⟨[], ⟨some a, m, rfl, .inl rfl⟩, Nat.zero_le _⟩
    · have hc0 := (hcell 0 (by omega)).1
      have hc0 : W.cell? a = some (.string (Sx 0)) := by simpa [Addr.add] using hc0
      obtain ⟨g, o, rfl⟩ := spot_none hc0
      refine ⟨(List.range len).map fun i => (Sx i).data.toList, ⟨some ⟨g, o, none⟩, m, by rw [hlen], .inr ⟨g, o, rfl, fun j hj => ?_⟩⟩, by rw [hlen]; exact hlb⟩
      rw [hlen] at hj
      have := (hcell j (by omega)).1
      rw [Addr.add_lit] at this
      rw [this]
      simp only [List.getElem_map, List.getElem_range]
      rw [← B_of]

/-- A store within, opened. -/
theorem open_store_in {fuel : Nat} {v0 v1 : Value} {y : DataW H × List MemPlace} (hf : DataW.trod enc Try.prog W 0 (fun _ => true) true fuel 34 [v0, v1] = some y) (hsz : ∀ n ∈ y.1.weights Try.prog 34, n ≤ reachBytes) :
    ∃ s : St, Ns W v0 s.nodes ∧ Ts W v1 s.turns ∧ s.nodes.length ≤ 140737488355328 ∧ s.turns.length ≤ 140737488355328 := by
  obtain ⟨xs, k, hk, hxy, _, hxl, hf⟩ := DataW.trod_struct Try.underlying34 hf
  match xs, hxl with
  | [y0, y1], _ =>
    have g0 := hf 0 _ rfl
    have g1 := hf 1 _ rfl
    simp [Try.cellsNs] at g0
    simp [Try.cellsNs, Try.cellsTs] at g1
    have hd := congrArg Prod.fst hxy
    simp only at hd
    obtain ⟨l0, h0, n0, _⟩ := open_nodes_in g0 (fun n hn => hsz n (by rw [hd]; simp only [DataW.weights, Try.underlying34, List.map_cons, List.map_nil, DataW.weightsEach, List.mem_append]; simp [hn]))
    obtain ⟨l1, h1, n1, _⟩ := open_turns_in g1 (fun n hn => hsz n (by rw [hd]; simp only [DataW.weights, Try.underlying34, List.map_cons, List.map_nil, DataW.weightsEach, List.mem_append]; simp [hn]))
    exact ⟨⟨l0, l1⟩, h0, h1, n0, n1⟩

/-- A watch within, opened. -/
theorem open_watch_in {fuel : Nat} {v0 v1 v2 v3 : Value} {y : DataW H × List MemPlace} (hf : DataW.trod enc Try.prog W 0 (fun _ => true) true fuel 43 [v0, v1, v2, v3] = some y) :
    ∃ (a b : Int) (p : Bs) (x : Bool), v0 = .int .i64 a ∧ v1 = .int .i64 b ∧ v2 = .string (B p) ∧ v3 = .bool x := by
  obtain ⟨xs, k, hk, hxy, _, hxl, hf⟩ := DataW.trod_struct Try.underlying43 hf
  match xs, hxl with
  | [y0, y1, y2, y3], _ =>
    have g0 := hf 0 _ rfl
    have g1 := hf 1 _ rfl
    have g2 := hf 2 _ rfl
    have g3 := hf 3 _ rfl
    simp [Try.cellsI64] at g0
    simp [Try.cellsI64] at g1
    simp [Try.cellsStr'] at g2
    simp [Try.cellsBoo] at g3
    obtain ⟨z0, e0, _, _⟩ := DataW.trod_int Try.underlying2 g0
    obtain ⟨z1, e1, _, _⟩ := DataW.trod_int Try.underlying2 g1
    obtain ⟨z2, e2, _, _⟩ := DataW.trod_string Try.underlying9 g2
    obtain ⟨z3, e3, _⟩ := DataW.trod_bool Try.underlying4 g3
    simp only [List.cons.injEq, and_true] at e0 e1 e2 e3
    exact ⟨z0, z1, z2.data.toList, z3, e0, e1, by rw [e2, ← B_of], e3⟩

/-- A command, opened. -/
theorem open_command {v : Value} {d : DataW H} {p : List MemPlace} {base : Nat} (hv : Value.okWide Try.prog W .any base 45 v) (h : DataW.Trod enc Try.prog W 0 (fun _ => true) true 45 v d p) (hsz : ∀ n ∈ d.weights Try.prog 45, n ≤ reachBytes) :
    ∃ c : Cd, CdW W v c ∧ Ln c := by
  obtain ⟨cs, rfl, hcs⟩ := okWide_struct Try.underlying45 hv
  rw [Try.cellsCd] at hcs
  obtain ⟨fuel, hf⟩ := h
  have hf : DataW.trod enc Try.prog W 0 (fun _ => true) true fuel 45 cs.toList = some (d, p) := by simpa [Value.cells] using hf
  obtain ⟨cs⟩ := cs
  simp only at hf
  have hlen : cs.length = 16 := by simpa using hcs
  obtain ⟨xs, k, hk, hxy, _, hxl, hf⟩ := DataW.trod_struct Try.underlying45 hf
  match xs, hxl, cs, hlen with
  | [y0, y1, y2, y3, y4, y5, y6, y7, y8, y9, y10, y11], _, [v0, v1, v2, v3, v4, v5, v6, v7, v8, v9, v10, v11, v12, v13, v14, v15], _ =>
    have g0 := hf 0 _ rfl
    have g1 := hf 1 _ rfl
    have g2 := hf 2 _ rfl
    have g3 := hf 3 _ rfl
    have g4 := hf 4 _ rfl
    have g5 := hf 5 _ rfl
    have g6 := hf 6 _ rfl
    have g7 := hf 7 _ rfl
    have g8 := hf 8 _ rfl
    have g9 := hf 9 _ rfl
    have g10 := hf 10 _ rfl
    have g11 := hf 11 _ rfl
    simp [Try.cellsInt, Try.cellsI64, Try.cellsBoo, Try.cellsPs, Try.cellsStr', Try.cellsSt, Try.cellsGs, Try.cellsWt] at g0
    simp [Try.cellsInt, Try.cellsI64, Try.cellsBoo, Try.cellsPs, Try.cellsStr', Try.cellsSt, Try.cellsGs, Try.cellsWt] at g1
    simp [Try.cellsInt, Try.cellsI64, Try.cellsBoo, Try.cellsPs, Try.cellsStr', Try.cellsSt, Try.cellsGs, Try.cellsWt] at g2
    simp [Try.cellsInt, Try.cellsI64, Try.cellsBoo, Try.cellsPs, Try.cellsStr', Try.cellsSt, Try.cellsGs, Try.cellsWt] at g3
    simp [Try.cellsInt, Try.cellsI64, Try.cellsBoo, Try.cellsPs, Try.cellsStr', Try.cellsSt, Try.cellsGs, Try.cellsWt] at g4
    simp [Try.cellsInt, Try.cellsI64, Try.cellsBoo, Try.cellsPs, Try.cellsStr', Try.cellsSt, Try.cellsGs, Try.cellsWt] at g5
    simp [Try.cellsInt, Try.cellsI64, Try.cellsBoo, Try.cellsPs, Try.cellsStr', Try.cellsSt, Try.cellsGs, Try.cellsWt] at g6
    simp [Try.cellsInt, Try.cellsI64, Try.cellsBoo, Try.cellsPs, Try.cellsStr', Try.cellsSt, Try.cellsGs, Try.cellsWt] at g7
    simp [Try.cellsInt, Try.cellsI64, Try.cellsBoo, Try.cellsPs, Try.cellsStr', Try.cellsSt, Try.cellsGs, Try.cellsWt] at g8
    simp [Try.cellsInt, Try.cellsI64, Try.cellsBoo, Try.cellsPs, Try.cellsStr', Try.cellsSt, Try.cellsGs, Try.cellsWt] at g9
    simp [Try.cellsInt, Try.cellsI64, Try.cellsBoo, Try.cellsPs, Try.cellsStr', Try.cellsSt, Try.cellsGs, Try.cellsWt] at g10
    simp [Try.cellsInt, Try.cellsI64, Try.cellsBoo, Try.cellsPs, Try.cellsStr', Try.cellsSt, Try.cellsGs, Try.cellsWt] at g11
    have hd := congrArg Prod.fst hxy
    simp only at hd
    have hw : ∀ (m : Nat) (n : Nat), n ∈ DataW.weights Try.prog 45 d → n ≤ reachBytes := fun _ n h => hsz n h
    obtain ⟨z0, e0, _, _⟩ := DataW.trod_int Try.underlying3 g0
    obtain ⟨z1, e1, _, _⟩ := DataW.trod_int Try.underlying2 g1
    obtain ⟨z2, e2, _, _⟩ := DataW.trod_int Try.underlying2 g2
    obtain ⟨z3, e3, _, _⟩ := DataW.trod_int Try.underlying2 g3
    obtain ⟨z7, e7, _, _⟩ := DataW.trod_int Try.underlying2 g7
    obtain ⟨z8, e8, _, _⟩ := DataW.trod_int Try.underlying3 g8
    obtain ⟨z4, e4, _⟩ := DataW.trod_bool Try.underlying4 g4
    obtain ⟨z6, e6, _, _⟩ := DataW.trod_string Try.underlying9 g6
    obtain ⟨ps, f5, n5⟩ := open_pieces_in g5 (fun n hn => hsz n (by rw [hd]; simp only [DataW.weights, Try.underlying45, List.map_cons, List.map_nil, DataW.weightsEach, List.mem_append]; simp [hn]))
    obtain ⟨st, fn, ft, n9, n10⟩ := open_store_in g9 (fun n hn => hsz n (by rw [hd]; simp only [DataW.weights, Try.underlying45, List.map_cons, List.map_nil, DataW.weightsEach, List.mem_append]; simp [hn]))
    obtain ⟨gn, f11, n11⟩ := open_strings_in g10 (fun n hn => hsz n (by rw [hd]; simp only [DataW.weights, Try.underlying45, List.map_cons, List.map_nil, DataW.weightsEach, List.mem_append]; simp [hn]))
    obtain ⟨ws, wn, wp, dp, e12, e13, e14, e15⟩ := open_watch_in g11
    simp only [List.cons.injEq, and_true] at e0 e1 e2 e3 e4 e6 e7 e8
    subst e0 e1 e2 e3 e4 e6 e7 e8 e12 e13 e14 e15
    exact ⟨⟨z0, z1, z2, z3, z4, ps, z6.data.toList, z7, z8, st, gn, ws, wn, wp, dp⟩, ⟨v5, v9, v10, v11, by unfold cdL; rw [← B_of], f5, fn, ft, f11⟩, ⟨n5, n9, n10, n11⟩⟩
end
end Go.Proofs.Ytdfnfkknbjageaa

/- The groups of directories: groupOf, groups, Route (gen_d6.py): a range over a function whose rounds call, and whose body appends and returns. -/
namespace Go.Proofs.Ytdfnfkknbjageaa
set_option maxRecDepth 100000
set_option linter.unusedVariables false
set_option linter.unusedSimpArgs false
open Go.RowKit Go.Shelf Pm
attribute [local go_sem] Oper.semAt_some

abbrev TIN : TypeId := 3
abbrev TLI : TypeId := 48
abbrev TLT : TypeId := 41
/-- A directory's group; is there one? -/
def gkM (l : List Mt) (d : Bs) : Int × Bool := match pick l d with | some y => (y.g, true) | none => (0, false)
set_option maxHeartbeats 1000000 in
theorem groupOf_c (v : Value) (l : List Mt) (d : Bs) (w : World) (hv : NsM w v l) (hs : SzM l) (hd : d.length ≤ 140737488355328) :
    Calls Try.prog 47 #[v, .string (B d)] w fun e w' => e = .returned (.tuple #[.int .i64 (gkM l d).1, .bool (gkM l d).2]) ∧ Fp Non w w' := by
  have h1 := OfM_c v l d w hv hs hd
  have hn := hs.n
  cases ho : ofR l d with
  | none =>
    have he : gkM l d = (0, false) := by unfold gkM; rw [pick_none ho]
    rw [he]
    rw [ho] at h1
    obtain ⟨ao, cap, rfl⟩ := hv.shape
    generalize l.length = n at *
    have H1 := Lib.hid h1
    clear h1 hv hs hd ho he
    go_enter Try.func47, Try.ntmps47
    go_wp2_with fail
    refine H1.out.mono ?_
    rintro e w1 ⟨rfl, hf⟩
    have F1 := Lib.hid hf
    clear hf
    simp only [idx]
    go_wp2
    exact bodyPost_ret (v := .tuple #[.int .i64 0, .bool false]) (by simp [results, Try.results47, go_sem]) rfl ⟨rfl, F1.out⟩
  | some k =>
    have hk := ofR_lt ho
    have he : gkM l d = (l[k].g, true) := by unfold gkM; rw [pick_at ho]
    rw [he]
    rw [ho] at h1
    obtain ⟨g, o, cap, rfl, _, _, _, hc⟩ := hv.at (by omega)
    obtain ⟨y, hy⟩ : ∃ y, l[k] = y := ⟨_, rfl⟩
    have hnd := hc k hk
    rw [hy] at hnd ⊢
    obtain ⟨n, hnn⟩ : ∃ n, n = l.length := ⟨_, rfl⟩
    rw [← hnn] at h1 hk hn ⊢
    have q1 : ((k : Int) < 0) = False := eq_false (by omega)
    have q2 : ((k : Int) < (n : Int)) = True := eq_true (by omega)
    have q3 : (k < n) = True := eq_true hk
    have hkb : k ≤ 140737488355328 := by omega
    have H1 := Lib.hid h1
    have HN := Lib.hid hnd
    clear h1 hv hs hd ho he hc hnd hy hnn hk hn
    go_enter Try.func47, Try.ntmps47
    go_wp2_with fail
    refine H1.out.mono ?_
    rintro e w1 ⟨rfl, hf⟩
    have F1 := Lib.hid hf
    have c1 := (HN.out.keep hf (fun h => h)).c1
    clear hf
    simp only [idx]
    go_wp2
    exact bodyPost_ret (v := .tuple #[.int .i64 y.g, .bool true]) (by simp [results, Try.results47, go_sem]) rfl ⟨rfl, F1.out⟩

set_option maxHeartbeats 1000000 in
theorem groups_in (n : Nat) (a : Option Addr) (len cap : Nat) (a' : Option Addr) (len' cap' : Nat) (w : World) :
    CallsIn Fence.wide n Try.prog 28 #[.slice a len cap, .slice a' len' cap'] w fun e w' => e = .returned (.func (.func 46) #[] #[.pointer (some ⟨w.heap.size + 1, 0, none⟩), .pointer (some ⟨w.heap.size, 0, none⟩)]) ∧ w' = (w.alloc (.cells #[.slice a len cap] TLM)).alloc (.cells #[.slice a' len' cap'] TLT) := by
  refine callsIn_of_wp Try.func28 rfl trivial ?_ rfl
  simp only [Try.ntmps28, List.size_toArray, List.length_cons, List.length_nil, Nat.reduceAdd, Nat.reduceSub, Array.replicate_succ, Array.replicate_zero, List.push_toArray, List.append_toArray, List.nil_append, List.cons_append]
  gi_wp2
  go_ret
  exact ⟨rfl, rfl⟩

/-- What lay below n₀ lies as it lay, but for block b. -/
structure Kr (n₀ b : Nat) (W W' : World) : Prop where
  os : W'.os = W.os
  tape : W'.tape = W.tape
  output : W'.output = W.output
  size : W.heap.size ≤ W'.heap.size
  block : ∀ k, k < n₀ → k ≠ b → W'.heap[k]? = W.heap[k]?
section
variable {n₀ b : Nat} {A B' C : World}
theorem Kr.refl (W : World) : Kr n₀ b W W := ⟨rfl, rfl, rfl, Nat.le_refl _, fun _ _ _ => rfl⟩
theorem Kr.trans (h : Kr n₀ b A B') (k : Kr n₀ b B' C) : Kr n₀ b A C := ⟨k.os.trans h.os, k.tape.trans h.tape, k.output.trans h.output, Nat.le_trans h.size k.size, fun i hi hb => (k.block i hi hb).trans (h.block i hi hb)⟩
theorem Kr.of_fp {S : Nat → Prop} (f : Fp S A B') (hn : n₀ ≤ A.heap.size) (hS : ∀ k, S k → k = b ∨ n₀ ≤ k) : Kr n₀ b A B' := ⟨f.os, f.tape, f.output, f.size, fun k hk hb => f.block k (by omega) (fun hs => by rcases hS k hs with h | h <;> omega)⟩
theorem Kr.of_below {m : Nat} (f : Below m A B') (hn : n₀ ≤ m) : Kr n₀ b A B' := ⟨f.os, f.tape, f.output, f.size, fun k hk _ => f.block k (by omega)⟩
theorem Kr.cell (h : Kr n₀ b A B') {p : Addr} {v : Value} (hc : A.cell? p = some v) (hp : p.block < n₀) (hb : p.block ≠ b) : B'.cell? p = some v := (World.cell?_of_block (h.block _ hp hb)).trans hc
theorem Kr.fp {w : World} (h : Kr n₀ b A B') (f : Fp Non w A) (hn : w.heap.size ≤ n₀) (hb : w.heap.size ≤ b) : Fp Non w B' := ⟨h.os.trans f.os, h.tape.trans f.tape, h.output.trans f.output, Nat.le_trans f.size h.size, fun k hk _ => (h.block k (by omega) (by omega)).trans (f.block k hk (fun h => h))⟩
end
theorem krK_b {w : World} {b : Nat} (W : World) (l : Nat) (o o' : Obj) (hl : w.heap.size ≤ l) (h : W.heap[l]? = some o) (_ : o.isCells = false) (_ : o.isWalk = false) : Kr w.heap.size b W (W.putObj l o') :=
  Kr.of_below ((Below.refl w.heap.size W).grown (grownBy_putObj' W l o') (by have := (Array.getElem?_eq_some_iff.1 h).1; omega) (fun k e => by cases e; omega)) (Nat.le_refl _)
theorem ownFrom_kr {β : Type} {n₀ b B' : Nat} {w₀ : World} (hn : n₀ ≤ w₀.heap.size) (hB : n₀ ≤ B') : OwnFrom B' (fun (_ : β) W => Kr n₀ b w₀ W) := fun _ X Y row hs hg hr =>
  hs.trans ⟨hg.os, hg.tape, hg.output, hg.size, fun k hk _ => hg.block k (by have := hs.size; omega) (fun e => by have := (hr k e.symm).1; omega)⟩
theorem grown_non {A B' : World} (f : Fp Non A B') : A.grownBy B' none := ⟨f.os, f.tape, f.output, f.size, fun k hk _ => f.block k hk (fun h => h)⟩
/-- Rows that lie below n₀, not in b. -/
def LowM (n₀ b : Nat) (W : World) (ao : Option Addr) (l : List Mt) : Prop := l = [] ∨ ∃ g o, ao = some ⟨g, o, none⟩ ∧ g < n₀ ∧ g ≠ b ∧ ∀ i (h : i < l.length), NdAtM W g (o + i * 4) l[i]
def LowT (n₀ b : Nat) (W : World) (ao : Option Addr) (l : List Bs) : Prop := l = [] ∨ ∃ g o, ao = some ⟨g, o, none⟩ ∧ g < n₀ ∧ g ≠ b ∧ ∀ i (h : i < l.length), W.cell? ⟨g, o + i, none⟩ = some (.string (B l[i]))
theorem LowM.kr {n₀ b : Nat} {W W' : World} {ao : Option Addr} {l : List Mt} (h : LowM n₀ b W ao l) (k : Kr n₀ b W W') : LowM n₀ b W' ao l := by
  rcases h with h | ⟨g, o, e, h1, h2, h3⟩
  · exact .inl h
  · exact .inr ⟨g, o, e, h1, h2, fun i hi => ⟨k.cell (h3 i hi).c0 h1 h2, k.cell (h3 i hi).c1 h1 h2, k.cell (h3 i hi).c2 h1 h2, k.cell (h3 i hi).c3 h1 h2⟩⟩
theorem LowM.ns {n₀ b n cap : Nat} {W : World} {ao : Option Addr} {l : List Mt} (h : LowM n₀ b W ao l) (hn : n = l.length) (h1 : l.length ≤ cap) (h2 : cap ≤ maxLen) (h0 : n₀ ≤ W.heap.size) : NsM W (.slice ao n cap) l := by
  subst hn
  refine ⟨ao, cap, rfl, h1, h2, ?_⟩
  rcases h with h | ⟨g, o, e, k1, _, k3⟩
  · exact .inl h
  · exact .inr ⟨g, o, e, by omega, k3⟩
theorem take_s {α β : Type} (f : α → β) (l : List α) (k : Nat) (h : k < l.length) : (l.take (k + 1)).map f = (l.take k).map f ++ [f l[k]] := by
  rw [List.take_succ_eq_append_getElem h, List.map_append]; rfl

set_option maxHeartbeats 8000000 in
theorem groups1_in (n : Nat) (hn : 1 ≤ n) (lp Bl Bd n₀ br : Nat) (ao : Option Addr) (cap : Nat) (l : List Mt) (ad : Option Addr) (cd : Nat) (ds : List Bs) (hcap : l.length ≤ cap) (hcm : cap ≤ maxLen) (hs : SzM l) (hsd : ∀ d ∈ ds, d.length ≤ 140737488355328) (hdl : ds.length ≤ 1000000) (J Jx : List (Int × Bool) → World → Prop)
    (hAb : ∀ s X Y, J s X → Fp Non X Y → J s Y)
    (hY : ∀ pre x W, J pre W → pre.length < ds.length → YieldAt Fence.wide (n - 1) Try.prog lp #[.int .i64 x.1, .bool x.2] W fun e W' =>
      (e = .returned (.bool true) ∧ J (pre ++ [x]) W' ∧ Kr n₀ br W W') ∨ (e = .returned (.bool false) ∧ Jx (pre ++ [x]) W'))
    (W : World) (hn₀ : n₀ ≤ W.heap.size) (hBl : Bl < n₀) (hlr : Bl ≠ br) (hBd : Bd < n₀) (hdr : Bd ≠ br) (hcl : W.cell? ⟨Bl, 0, none⟩ = some (.slice ao l.length cap)) (hcd : W.cell? ⟨Bd, 0, none⟩ = some (.slice ad ds.length cd)) (hL : LowM n₀ br W ao l) (hD : LowT n₀ br W ad ds) (h0 : J [] W) :
    CallsIn Fence.wide n Try.prog 46 #[.func (.yield lp) #[] #[], .pointer (some ⟨Bd, 0, none⟩), .pointer (some ⟨Bl, 0, none⟩)] W fun e W' => (∃ v, e = .returned v) ∧
      ((∃ ys, ys = ds.map (gkM l) ∧ J ys W') ∨ (∃ pre, (∃ k, k ≤ ds.length ∧ pre = (ds.take k).map (gkM l)) ∧ Jx pre W')) := by
  refine callsIn_of_wp Try.func46 rfl trivial ?_ rfl
  simp only [Try.ntmps46, List.size_toArray, List.length_cons, List.length_nil, Nat.reduceAdd, Nat.reduceSub, Array.replicate_succ, Array.replicate_zero, List.push_toArray, List.append_toArray, List.nil_append, List.cons_append]
  obtain ⟨m, hm⟩ : ∃ m, m = ds.length := ⟨_, rfl⟩
  obtain ⟨ll, hll⟩ : ∃ m, m = l.length := ⟨_, rfl⟩
  rw [← hm] at hcd
  rw [← hll] at hcl
  have HX := Lib.hid (And.intro hm (And.intro hll (And.intro hcap (And.intro hcm (And.intro hs hsd)))))
  have HY := Lib.hid (And.intro hY hAb)
  have HW := Lib.hid (And.intro hcl (And.intro hcd (And.intro hL (And.intro hD (And.intro hn₀ h0)))))
  have HB := Lib.hid (And.intro hBl (And.intro hlr (And.intro hBd hdr)))
  have hmb : m ≤ 1000000 := by omega
  clear hm hll hcap hcm hs hsd hdl hY hAb hL hD h0 hn₀ hBl hlr hBd hdr
  gi_wp2
  clear hcd
  gi_loopw [8] (fun i wr => ∃ k : Nat, k ≤ m ∧ i = .int .i64 (k : Int) ∧ Hid (J ((ds.take k).map (gkM l)) wr ∧ Kr n₀ br W wr))
    (fun i _ => m - (intOf i).toNat)
  case atStart => exact ⟨0, Nat.zero_le _, rfl, HW.out.2.2.2.2.2, Kr.refl _⟩
  case round =>
    clear hcl
    obtain ⟨k, hk, rfl, hR⟩ := hrel
    by_cases hlt : k < m
    · have hkl : k < ds.length := by rw [← HX.out.1]; exact hlt
      obtain ⟨g, o, hgo, hg1, hg2, hcs⟩ : ∃ g o, ad = some ⟨g, o, none⟩ ∧ g < n₀ ∧ g ≠ br ∧ ∀ i (h : i < ds.length), wr.cell? ⟨g, o + i, none⟩ = some (.string (B ds[i])) := by
        rcases HW.out.2.2.2.1 with h | ⟨g, o, e, h1, h2, h3⟩
        · rw [h] at hkl; simp at hkl
        · exact ⟨g, o, e, h1, h2, fun i hi => hR.out.2.cell (h3 i hi) h1 h2⟩
      subst hgo
      have c0 := hcs k hkl
      have cl : wr.cell? ⟨Bl, 0, none⟩ = some (.slice ao ll cap) := hR.out.2.cell HW.out.1 HB.out.1 HB.out.2.1
      have hsz := hR.out.2.size
      have hns := (HW.out.2.2.1.kr hR.out.2).ns (n := ll) HX.out.2.1 HX.out.2.2.1 HX.out.2.2.2.1 (Nat.le_trans HW.out.2.2.2.2.1 hsz)
      have hcall := groupOf_c _ l ds[k] wr hns HX.out.2.2.2.2.1 (HX.out.2.2.2.2.2 _ (List.getElem_mem hkl))
      have hd := take_s (gkM l) ds k hkl
      obtain ⟨d, hdd⟩ : ∃ d, d = ds[k] := ⟨_, rfl⟩
      rw [← hdd] at c0 hcall hd
      have hyl := fun W2 (f : Fp Non wr W2) => HY.out.1 _ (gkM l d) W2 (HY.out.2 _ _ _ hR.out.1 f) (by rw [List.length_map, List.length_take]; omega)
      obtain ⟨x, hx⟩ : ∃ x, gkM l d = x := ⟨_, rfl⟩
      rw [hx] at hcall hd hyl
      have HC := Lib.hid (And.intro hcall hyl)
      have HM := Lib.hid (And.intro hd (And.intro hlt (And.intro hsz HW.out.2.2.2.2.1)))
      have q2 : ((k : Int) < (m : Int)) = True := eq_true (by omega)
      have q3 : (k < m) = True := eq_true (by omega)
      clear hcs hns hcall hd hyl hdd hx hlt hkl hsz hg1 hg2 hk
      gi_wp2_with (refine ⟨trivial, ?_⟩; gi_at_call 47; refine (callsIn_wide.2 HC.out.1).mono ?_; rintro e w2 ⟨rfl, f2⟩; obtain ⟨fn, tmps, assign, body, hy, hRr⟩ := HC.out.2 _ f2; have HF2 := Lib.hid f2; clear f2 c0 cl)
      refine hRr.mono ?_
      rintro e W3 (⟨rfl, hJ3, hk3⟩ | ⟨rfl, hJx3⟩)
      · have hlt := HM.out.2.1
        have HK := Lib.hid (And.intro hJ3 hk3)
        clear hJ3 hk3
        gi_wp2
        go_roundw
        case rel =>
          exact ⟨k + 1, by omega, by go_num, by rw [HM.out.1]; exact HK.out.1, (hR.out.2.trans (Kr.of_fp HF2.out (Nat.le_trans HM.out.2.2.2 HM.out.2.2.1) (fun _ h => h.elim))).trans HK.out.2⟩
        case measure => simp [intOf]; omega
      · have HK := Lib.hid hJx3
        clear hJx3
        gi_wp2
        refine bodyPost_ret (results_none rfl _ _ _) rfl ?_
        exact ⟨⟨_, rfl⟩, .inr ⟨_, ⟨k + 1, by have := HM.out.2.1; have := HX.out.1; omega, by rw [HM.out.1]⟩, HK.out⟩⟩
    · obtain rfl : k = m := by omega
      have q1 : ((k : Int) < (k : Int)) = False := eq_false (by omega)
      have HE := Lib.hid (show J (ds.map (gkM l)) wr from by have := hR.out.1; rwa [List.take_of_length_le (by rw [← HX.out.1]; exact Nat.le_refl _)] at this)
      gi_wp2
      go_end0
      exact ⟨⟨_, rfl⟩, .inl ⟨_, rfl, HE.out⟩⟩
end Go.Proofs.Ytdfnfkknbjageaa

