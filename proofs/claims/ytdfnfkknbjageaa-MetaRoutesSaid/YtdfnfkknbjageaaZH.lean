/- Texts of this proof, merged. -/
import Derived.Test.YtdfnfkknbjageaaZB
import Derived.Test.YtdfnfkknbjageaaShelf
import Derived.Laws.StructEq
import Derived.Lib.Bytealg
import Derived.ProofKit
import Derived.OpenShut
import Derived.Deep.Strs
import Derived.Deep.Grids
import Derived.ChangeSlices
import Derived.Test.YtdfnfkknbjageaaZD
import Derived.Test.YtdfnfkknbjageaaZF
import Derived.Test.YtdfnfkknbjageaaZG
import Derived.Test.YtdfnfkknbjageaaZE
import Derived.Test.YtdfnfkknbjageaaProg
import Derived.WalkKit
import Derived.WalkSpells
import Derived.WalkLawsBesides
import Derived.Deep.QuietTactic
import Derived.Deep.RegionWith
import Derived.BigQuiet
import Derived.Lib.Hide
import Derived.Lib.AppendStr
import Derived.Lib.UnsafeStr
import Derived.Maps.AppendAt
import Derived.Deep.Upon
import Derived.Laws.CopyRow
import Derived.Test.YtdfnfkknbjageaaZC
import Derived.Test.YtdfnfkknbjageaaZA
set_option linter.unusedVariables false
set_option linter.unusedSimpArgs false
/- The document's Same. -/
namespace Go.Proofs.Ytdfnfkknbjageaa
set_option maxRecDepth 20000
set_option linter.unusedVariables false
set_option linter.unusedSimpArgs false
open Go.RowKit Pm

theorem B_list (l : Bs) : (B l).toList = l := by
  unfold B; simp [ByteArray.toList_eq]
end Go.Proofs.Ytdfnfkknbjageaa

/- Is it too much? -/
namespace Go.Proofs.Ytdfnfkknbjageaa
set_option maxRecDepth 20000
set_option linter.unusedVariables false
set_option linter.unusedSimpArgs false
open Go.RowKit Pm

/-- Ahead of round k of Great. -/
structure GrM (l : List Nd) (w : World) (k : Nat) (N : Int) (wr : World) : Prop where
  fp : Fp Non w wr
  lo : 3 * (l.length : Int) ≤ N
  eq : ∀ j (h : j < l.length), j < k → (min (l[j].path.length : Int) 5000 ≤ N ∧ min (l[j].data.length : Int) 5000 ≤ N)

theorem min5 (a : Nat) : (0 : Int) ≤ min (a : Int) 5000 ∧ min (a : Int) 5000 ≤ 5000 := by omega
theorem GrM.next {l : List Nd} {w wr wr' : World} {k : Nat} {N : Int} (h : GrM l w k N wr) (f : Fp Non wr wr') (hk : k < l.length) :
    GrM l w (k + 1) (N + min (l[k].path.length : Int) 5000 + min (l[k].data.length : Int) 5000) wr' := by
  have hN : 0 ≤ N := by have := h.lo; omega
  have m1 := min5 l[k].path.length
  have m2 := min5 l[k].data.length
  refine ⟨h.fp.then f, by have := h.lo; omega, fun j hj hjk => ?_⟩
  rcases Nat.lt_or_eq_of_le (show j ≤ k by omega) with e | e
  · have := h.eq j hj e
    omega
  · subst e
    omega
theorem GrM.few {l : List Nd} {w wr : World} {k : Nat} {N : Int} (h : GrM l w k N wr) (hk : k = l.length) (hN : N < 5000) : l.length ≤ 1667 ∧ ∀ x ∈ l, x.path.length ≤ 5000 ∧ x.data.length ≤ 5000 := by
  refine ⟨by have := h.lo; omega, fun x hx => ?_⟩
  obtain ⟨j, hj, rfl⟩ := List.getElem_of_mem hx
  have := h.eq j hj (by omega)
  omega

set_option maxHeartbeats 6000000 in
theorem Great_c (v : Value) (l : List Nd) (w : World) (hv : Ns w v l) (hn : l.length ≤ 140737488355328) :
    Calls Try.prog 53 #[v] w fun e w' => ∃ g : Bool, e = .returned (.bool g) ∧ (g = false → l.length ≤ 1667 ∧ ∀ x ∈ l, x.path.length ≤ 5000 ∧ x.data.length ≤ 5000) ∧ Fp Non w w' := by
  obtain ⟨ao, cap, rfl⟩ := hv.shape
  obtain ⟨n, hnn⟩ : ∃ n, n = l.length := ⟨_, rfl⟩
  have HX := Lib.hid (And.intro hnn hv)
  rw [← hnn]
  have hnb : n ≤ 140737488355328 := by omega
  clear hv hn hnn
  go_enter Try.func53, Try.ntmps53
  go_wp2_with fail
  go_loopw [3, 4] (fun m i wr => ∃ k : Nat, k ≤ n ∧ i = .int .i64 k ∧ ∃ N : Int, m = .int .i64 N ∧ (0 ≤ N ∧ N ≤ 422212465095680) ∧ Hid (GrM l w k N wr)) (fun _ i _ => n - (RowKit.intOf i).toNat)
  case atStart => exact ⟨0, Nat.zero_le _, rfl, 3 * (n : Int), by go_num, by omega, ⟨Fp.refl _ _, by rw [HX.out.1]; exact Int.le_refl _, fun j _ h => absurd h (Nat.not_lt_zero j)⟩⟩
  case round =>
    obtain ⟨k, hk, rfl, N, rfl, hN, hR⟩ := hrel
    rename_i wr _
    by_cases hlt : k < n
    · have hkl : k < l.length := by rw [← HX.out.1]; exact hlt
      have q3 : ((k : Int) < (n : Int)) = True := eq_true (by omega)
      have q4 : (k < n) = True := eq_true hlt
      by_cases hN5 : N < 5000
      · have q5 : (N < 5000) = True := eq_true hN5
        obtain ⟨g, o, cap', e, _, _, _, hcell⟩ := HX.out.2.at (by omega)
        injection e with e1 e2 e3
        subst e1 e3
        have hnd := (hcell k hkl).keep hR.out.fp (fun h => h)
        clear hcell
        have hnx := fun wr' f => hR.out.next (wr' := wr') f hkl
        have HNX := Lib.hid hnx
        have HL := Lib.hid (And.intro hlt hN5)
        clear hnx hlt hN5
        generalize l[k] = x at *
        clear hkl
        have c0 := hnd.c0; have c1 := hnd.c1
        unfold strV at c0 c1
        have HB := Lib.hid (And.intro (min5 x.path.length) (min5 x.data.length))
        clear hnd
        go_wp2_with fail
        go_quiet (fail)
        go_wp2_with fail
        have hb := HB.out
        have hj := HL.out
        refine ⟨⟨k + 1, by omega, by go_num, _, rfl, ⟨by omega, by omega⟩, HNX.out _ ((Fp.refl _ _).drewN _)⟩, ?_⟩
        simp [RowKit.intOf]; omega
      · have q5 : (N < 5000) = False := eq_false hN5
        have q6 : ((5000 : Int) ≤ N) = True := eq_true (by omega)
        clear hN5 hkl hlt
        go_wp2
        go_ret
        exact ⟨true, rfl, fun h => by simp at h, hR.out.fp⟩
    · have hke : k = n := by omega
      subst hke
      have q3 : ((k : Int) < (k : Int)) = False := eq_false (by omega)
      by_cases hN5 : N < 5000
      · have q6 : ((5000 : Int) ≤ N) = False := eq_false (by omega)
        have hfw := hR.out.few HX.out.1 hN5
        rw [← HX.out.1] at hfw
        have HFW := Lib.hid hfw
        clear hfw hN5 hlt hk
        go_wp2
        go_ret
        exact ⟨false, rfl, fun _ => HFW.out, hR.out.fp⟩
      · have q6 : ((5000 : Int) ≤ N) = True := eq_true (by omega)
        clear hN5 hlt hk
        go_wp2
        go_ret
        exact ⟨true, rfl, fun h => by simp at h, hR.out.fp⟩
end Go.Proofs.Ytdfnfkknbjageaa

/- The arguments of the laws: nodes. -/
namespace Go.Proofs.Ytdfnfkknbjageaa
set_option maxRecDepth 20000
open Go.ChangeShapes Go.WideShapes Go.ChangeAt Go.RowKit Pm Go.Deep
open Go.WideMaps Go.WideElems
open Go.ChangeMaps (setBlock shut_map_nil open_string shut_string)

theorem spot_none {w : World} {a : Addr} {v : Value} (h : w.cell? a = some v) : ∃ g o, a = ⟨g, o, none⟩ := by
  obtain ⟨g, o, spot⟩ := a
  have hs : spot = none := World.cell?_spot h
  exact ⟨g, o, by rw [hs]⟩
theorem Try.cellsNd : Try.prog.cellsOf 109 = 5 := by kernel_rfl
theorem Try.bytesNd : Try.prog.bytesOf 109 = 56 := by kernel_rfl
theorem Try.cellsStr' : Try.prog.cellsOf 9 = 1 := by kernel_rfl
theorem Try.cellsInt : Try.prog.cellsOf 3 = 1 := by kernel_rfl
theorem Try.cellsBoo : Try.prog.cellsOf 4 = 1 := by kernel_rfl
theorem Try.cellsI64 : Try.prog.cellsOf 2 = 1 := by kernel_rfl

section
variable {H : Type} {enc : TypeId × Value → H} {W : World}

theorem nd_of {n : Nat} {cs : List Value} {y : DataW H × List MemPlace} (hlen : cs.length = 5) (h : DataW.trod enc Try.prog W 0 (fun _ => true) true n 109 cs = some y) :
    ∃ x : Nd, cs = ndC x ∧ x.path.length ≤ maxLen ∧ x.data.length ≤ maxLen := by
  obtain ⟨xs, k, hk, hxy, _, hxl, hf⟩ := DataW.trod_struct Try.underlying109 h
  match xs, hxl, cs, hlen with
  | [y0, y1, y2, y3, y4], _, [v0, v1, v2, v3, v4], _ =>
    have g0 := hf 0 _ rfl
    have g1 := hf 1 _ rfl
    have g2 := hf 2 _ rfl
    have g3 := hf 3 _ rfl
    have g4 := hf 4 _ rfl
    simp [Try.cellsStr'] at g0
    simp [Try.cellsStr'] at g1
    simp [Try.cellsI64] at g2
    simp [Try.cellsI64] at g3
    simp [Try.cellsI64] at g4
    obtain ⟨z0, e0, _, h0⟩ := DataW.trod_string Try.underlying9 g0
    obtain ⟨z1, e1, _, h1⟩ := DataW.trod_string Try.underlying9 g1
    obtain ⟨z2, e2, _, _⟩ := DataW.trod_int Try.underlying2 g2
    obtain ⟨z3, e3, _, _⟩ := DataW.trod_int Try.underlying2 g3
    obtain ⟨z4, e4, _, _⟩ := DataW.trod_int Try.underlying2 g4
    simp only [List.cons.injEq, and_true] at e0 e1 e2 e3 e4
    subst e0 e1 e2 e3 e4
    refine ⟨⟨z0.data.toList, z1.data.toList, z2, z3, z4⟩, ?_, ?_, ?_⟩
    · unfold ndC strV; rw [← B_of, ← B_of]
    · simpa using h0
    · simpa using h1

end
end Go.Proofs.Ytdfnfkknbjageaa

/- The arguments of the laws, on: texts, operations. -/
namespace Go.Proofs.Ytdfnfkknbjageaa
set_option maxRecDepth 20000
set_option linter.unusedVariables false
set_option linter.unusedSimpArgs false
open Go.ChangeShapes Go.WideShapes Go.ChangeAt Go.RowKit Pm Go.Deep
open Go.WideMaps Go.WideElems
open Go.ChangeMaps (setBlock shut_map_nil open_string shut_string)

/-- A slice that reads as texts. -/
structure Tx (w : World) (v : Value) (l : List Bs) : Prop where
  ex : ∃ ao cap, v = .slice ao l.length cap ∧ (l = [] ∨ ∃ g o, ao = some ⟨g, o, none⟩ ∧ ∀ i (h : i < l.length), w.cell? ⟨g, o + i, none⟩ = some (.string (B l[i])))
theorem Tx.non {w w' : World} {v : Value} {l : List Bs} (h : Tx w v l) (f : Fp Non w w') : Tx w' v l := by
  obtain ⟨ao, cap, rfl, h3⟩ := h.ex
  refine ⟨ao, cap, rfl, ?_⟩
  rcases h3 with h3 | ⟨g, o, rfl, hc⟩
  · exact .inl h3
  · exact .inr ⟨g, o, rfl, fun i hi => f.cell (hc i hi) (fun h => h)⟩
theorem Tx.shape {w : World} {v : Value} {l : List Bs} (h : Tx w v l) : ∃ ao cap, v = .slice ao l.length cap := by
  obtain ⟨ao, cap, rfl, _⟩ := h.ex; exact ⟨ao, cap, rfl⟩
theorem Tx.at {w : World} {v : Value} {l : List Bs} (h : Tx w v l) (h0 : 0 < l.length) : ∃ g o cap, v = .slice (some ⟨g, o, none⟩) l.length cap ∧ ∀ i (h : i < l.length), w.cell? ⟨g, o + i, none⟩ = some (.string (B l[i])) := by
  obtain ⟨ao, cap, rfl, h3⟩ := h.ex
  rcases h3 with h3 | ⟨g, o, rfl, hc⟩
  · subst h3; simp at h0
  · exact ⟨g, o, cap, rfl, hc⟩

section
variable {H : Type} {enc : TypeId × Value → H} {W : World}

/-- []string, opened. -/
theorem open_strings {v : Value} {d : DataW H} {p : List MemPlace} {base : Nat} (hv : Value.okWide Try.prog W .any base 41 v) (h : DataW.Trod enc Try.prog W 0 (fun _ => true) true 41 v d p) (hsz : ∀ n ∈ d.weights Try.prog 41, n ≤ reachBytes) :
    ∃ l, Tx W v l ∧ True ∧ True := by
  obtain ⟨a0, len, cap, rfl⟩ := okWide_slice Try.underlying41 hv
  obtain ⟨fuel, hf⟩ := h
  have hf : DataW.trod enc Try.prog W 0 (fun _ => true) true fuel 41 [.slice a0 len cap] = some (d, p) := by simpa [Value.cells] using hf
  rcases open_strs Try.underlying41 Try.underlying9 Try.cellsStr' hf with ⟨hcs, hx⟩ | ⟨a, len', cap', m, Sx, hcs, _, hl, hm, hmm, hx, hcell⟩
  · simp only [List.cons.injEq, Value.slice.injEq, and_true] at hcs
    obtain ⟨rfl, rfl, rfl⟩ := hcs
    exact ⟨[], ⟨none, 0, rfl, .inl rfl⟩, trivial, trivial⟩
  · simp only [List.cons.injEq, Value.slice.injEq, and_true] at hcs
    obtain ⟨rfl, rfl, rfl⟩ := hcs
    simp only [if_true] at hmm
    subst hmm
    have hlen : ((List.range len).map fun i => (Sx i).data.toList).length = len := by simp
    by_cases h0 : len = 0
    · subst h0
      exact ⟨[], ⟨some a, m, rfl, .inl rfl⟩, trivial, trivial⟩
    · have hc0 := (hcell 0 (by omega)).1
      have hc0 : W.cell? a = some (.string (Sx 0)) := by simpa [Addr.add] using hc0
      obtain ⟨g, o, rfl⟩ := spot_none hc0
      refine ⟨(List.range len).map fun i => (Sx i).data.toList, ⟨some ⟨g, o, none⟩, m, by rw [hlen], .inr ⟨g, o, rfl, fun j hj => ?_⟩⟩, trivial, trivial⟩
      rw [hlen] at hj
      have := (hcell j (by omega)).1
      rw [Addr.add_lit] at this
      rw [this]
      simp only [List.getElem_map, List.getElem_range]
      rw [← B_of]

end
end Go.Proofs.Ytdfnfkknbjageaa

/- Commands in memory; numbers, paths, pieces: may they be? -/
namespace Go.Proofs.Ytdfnfkknbjageaa
set_option maxRecDepth 20000
set_option linter.unusedVariables false
set_option linter.unusedSimpArgs false
open Go.RowKit Pm

def inC (n : Int) : List Value := [.int .i64 n]
def peC (x : Pe) : List Value := .int .i64 x.op :: ptC x.p
theorem inC_len (n : Int) : (inC n).length = 1 := rfl
theorem peC_len (x : Pe) : (peC x).length = 8 := rfl
/-- A row in a block of its own. -/
theorem Sg.block {α : Type} {enc : α → List Value} {k : Nat} (hk : ∀ x, (enc x).length = k) {w : World} {g : Nat} {cs : Array Value} {T : TypeId} {l : List α} (h : w.heap[g]? = some (.cells cs T (0, 0))) (hcs : cs.toList = rowsG enc l) (c : Nat) :
    Sg enc k w (.slice (some ⟨g, 0, none⟩) l.length c) l := by
  refine ⟨_, c, rfl, .inr ⟨g, 0, rfl, fun i hi => ⟨fun j v hv => ?_⟩⟩⟩
  have hj : j < k := by rw [← hk l[i]]; exact (List.getElem?_eq_some_iff.1 hv).1
  rw [← rowsG_get hk l i j hi hj, ← hcs] at hv
  rw [cell_of_row w g _ _ T (0, 0) h, Nat.zero_add]
  rw [← hv]; simp

abbrev TCD : TypeId := 45
/-- A command's cells. -/
def cdL (c : Cd) (vp vn vt vg : Value) : Array Value :=
  #[.int .i64 c.kind, .int .i64 c.id, .int .i64 c.txn, .int .i64 c.age, .bool c.yes, vp, .string (B c.pre), .int .i64 c.ep, .int .i64 c.to, vn, vt, vg, .int .i64 c.ws, .int .i64 c.wn, .string (B c.wp), .bool c.deep]
structure CdW (w : World) (v : Value) (c : Cd) : Prop where
  ex : ∃ vp vn vt vg, v = .agg (cdL c vp vn vt vg) ∧ Sg peC 8 w vp c.ps ∧ Ns w vn c.st.nodes ∧ Ts w vt c.st.turns ∧ Tx w vg c.gone
theorem CdW.non {w w' : World} {v : Value} {c : Cd} (h : CdW w v c) (f : Fp Non w w') : CdW w' v c := by
  obtain ⟨vp, vn, vt, vg, e, h1, h2, h3, h4⟩ := h.ex
  exact ⟨vp, vn, vt, vg, e, h1.non f, h2.non f, h3.non f, h4.non f⟩
/-- Not too great for the calls. -/
structure Fw (c : Cd) : Prop where
  pre : c.pre.length ≤ 140737488355328
  wp : c.wp.length ≤ 140737488355328
  psn : c.ps.length ≤ 140737488355328
  ps : ∀ x ∈ c.ps, x.p.dir.length ≤ 140737488355328 ∧ x.p.path.length ≤ 140737488355328 ∧ x.p.data.length ≤ 140737488355328
  nn : c.st.nodes.length ≤ 140737488355328
  nodes : ∀ x ∈ c.st.nodes, x.path.length ≤ 140737488355328 ∧ x.data.length ≤ 140737488355328
  tn : c.st.turns.length ≤ 140737488355328
  turns : ∀ x ∈ c.st.turns, x.dir.length ≤ 140737488355328
  gn : c.gone.length ≤ 140737488355328
  gone : ∀ x ∈ c.gone, x.length ≤ 140737488355328

theorem isPe_c (p : Bs) (w : World) (hl : p.length ≤ 140737488355328) :
    Calls Try.prog 38 #[.string (B p)] w fun e w' => e = .returned (.bool (isPe p)) ∧ Fp Non w w' := by
  cases p with
  | nil =>
    go_enter Try.func38, Try.ntmps38
    go_wp2
    go_ret
    exact ⟨rfl, Fp.refl _ _⟩
  | cons c r =>
    have hr := Right_g (c :: r) w (sz_of hl (by omega))
    have he : isPe (c :: r) = (split (c :: r)).isSome := by simp [isPe]
    rw [he]
    generalize (split (c :: r)).isSome = b at hr ⊢
    have HR := Lib.hid hr
    clear hr he
    go_enter Try.func38, Try.ntmps38
    go_wp2_with fail
    refine HR.out.mono ?_
    rintro e w1 ⟨rfl, hg⟩
    have HG := Lib.hid hg.fp
    clear hg
    cases b <;> (go_wp2; go_ret; exact ⟨rfl, HG.out⟩)

set_option maxHeartbeats 2000000 in
theorem areNums_c (v : Value) (l : List Int) (w : World) (hv : Sg inC 1 w v l) (hl : l.length ≤ 140737488355328) :
    Calls Try.prog 37 #[v] w fun e w' => e = .returned (.bool (areNum l)) ∧ Fp Non w w' := by
  obtain ⟨ao, cap, rfl⟩ := hv.shape
  obtain ⟨n, hnn⟩ : ∃ n, n = l.length := ⟨_, rfl⟩
  obtain ⟨r, hr⟩ : ∃ r, areNum l = r := ⟨_, rfl⟩
  have hall : (∀ k (h : k < l.length), num l[k]) → r = true := fun h => by
    rw [← hr]; unfold areNum; rw [List.all_eq_true]; intro x hx; obtain ⟨i, hi, rfl⟩ := List.getElem_of_mem hx; exact decide_eq_true (h i hi)
  have hnone : ∀ k (h : k < l.length), ¬ num l[k] → r = false := fun k h hn => by
    rw [← hr]; apply Bool.eq_false_iff.2; intro h2; unfold areNum at h2; rw [List.all_eq_true] at h2; exact hn (of_decide_eq_true (h2 _ (List.getElem_mem h)))
  have HX := Lib.hid (And.intro hnn (And.intro hv (And.intro hall hnone)))
  have hnb : n ≤ 140737488355328 := by omega
  rw [hr, ← hnn]
  clear hv hnn hr hall hnone hl
  go_enter Try.func37, Try.ntmps37
  go_wp2_with fail
  go_loopw [7] (fun i wr => ∃ k : Nat, k ≤ n ∧ i = .int .i64 k ∧ Hid (Fp Non w wr ∧ ∀ j (h : j < l.length), j < k → num l[j])) (fun i _ => n - (RowKit.intOf i).toNat)
  case atStart => exact ⟨0, Nat.zero_le _, rfl, Fp.refl _ _, fun j _ h => absurd h (Nat.not_lt_zero j)⟩
  case round =>
    obtain ⟨k, hk, rfl, hR⟩ := hrel
    rename_i wr _
    by_cases hlt : k < n
    · have hkl : k < l.length := by rw [← HX.out.1]; exact hlt
      obtain ⟨g, o, cap', e, hcell⟩ := HX.out.2.1.at (by omega)
      injection e with e1 e2 e3
      subst e1 e3
      have c0 := ((hcell k hkl).keep hR.out.1 (fun h => h)).get 0 _ rfl
      simp only [Nat.mul_one, Nat.add_zero] at c0
      have hstep : num l[k] → ∀ j (h : j < l.length), j < k + 1 → num l[j] := fun h j hj hjk => by
        rcases Nat.lt_or_eq_of_le (show j ≤ k by omega) with e | e
        · exact hR.out.2 j hj e
        · subst e; exact h
      have hno := HX.out.2.2.2 k hkl
      generalize l[k] = x at *
      have q3 : ((k : Int) < (n : Int)) = True := eq_true (by omega)
      have q4 : (k < n) = True := eq_true hlt
      have HL := Lib.hid (And.intro hlt (And.intro hstep hno))
      have hkn := hlt
      clear hcell hkl hlt hstep hno
      by_cases h1 : x < 0
      · have t1 : (x < 0) = True := eq_true h1
        have HN := Lib.hid (HL.out.2.2 (fun h => by have := h.1; omega))
        clear h1
        go_wp2
        go_ret
        exact ⟨by rw [HN.out]; rfl, hR.out.1⟩
      · have t1 : (x < 0) = False := eq_false h1
        by_cases h2 : 281474976710656 < x
        · have t2 : (281474976710656 < x) = True := eq_true h2
          have HN := Lib.hid (HL.out.2.2 (fun h => by have := h.2; omega))
          clear h1 h2
          go_wp2
          go_ret
          exact ⟨by rw [HN.out]; rfl, hR.out.1⟩
        · have t2 : (281474976710656 < x) = False := eq_false h2
          have HN := Lib.hid (HL.out.2.1 ⟨by omega, by omega⟩)
          clear h1 h2
          go_wp2
          go_roundw
          case rel => exact ⟨k + 1, by omega, by go_num, hR.out.1, HN.out⟩
          case measure => simp [RowKit.intOf]; omega
    · have hke : k = n := by omega
      subst hke
      have q3 : ((k : Int) < (k : Int)) = False := eq_false (by omega)
      have HT := Lib.hid (HX.out.2.2.1 (fun j h => hR.out.2 j h (by rw [HX.out.1]; exact h)))
      clear hlt hk
      go_wp2
      go_ret
      exact ⟨by rw [HT.out]; rfl, hR.out.1⟩
end Go.Proofs.Ytdfnfkknbjageaa

/- Pieces, stores, what is kept elsewhere: may they be? -/
namespace Go.Proofs.Ytdfnfkknbjageaa
set_option maxRecDepth 20000
set_option linter.unusedVariables false
set_option linter.unusedSimpArgs false
open Go.RowKit Pm

/-- The Op ahead. -/
def lst (l : List Pe) (k : Nat) : Int := if h : 0 < k ∧ k - 1 < l.length then (l[k - 1]'h.2).op else 0
def ChkPe (l : List Pe) (k : Nat) (h : k < l.length) : Prop := lst l k ≤ l[k].op ∧ l[k].op < 8 ∧ mayP l[k].p = true ∧ l[k].p.ver ≠ 281474976710656
theorem lst_succ (l : List Pe) (k : Nat) (h : k < l.length) : lst l (k + 1) = l[k].op := by
  unfold lst; rw [dif_pos ⟨by omega, by simpa using h⟩]; simp
theorem arePs_iff (l : List Pe) : arePs l ↔ l.length ≤ 16 ∧ ∀ k (h : k < l.length), ChkPe l k h := by
  constructor
  · intro h
    refine ⟨h.1, fun k hk => ?_⟩
    obtain ⟨h1, h2, h3, h4, h5⟩ := h.2 k hk
    refine ⟨?_, h2, h3, h4⟩
    unfold lst; split
    · rename_i h6; exact h5 h6.1 h6.2
    · exact h1
  · intro h
    have h0 : ∀ k (hk : k < l.length), 0 ≤ l[k].op := by
      intro k
      induction k with
      | zero => intro hk; have := (h.2 0 hk).1; unfold lst at this; rw [dif_neg (by omega)] at this; exact this
      | succ k ih => intro hk; have := (h.2 (k + 1) hk).1; rw [lst_succ l k (by omega)] at this; have := ih (by omega); omega
    refine ⟨h.1, fun k hk => ?_⟩
    obtain ⟨h1, h2, h3, h4⟩ := h.2 k hk
    refine ⟨h0 k hk, h2, h3, h4, fun g1 g2 => ?_⟩
    unfold lst at h1; rw [dif_pos ⟨g1, g2⟩] at h1; exact h1
open Classical in
noncomputable def psB (l : List Pe) : Bool := decide (arePs l)
theorem psB_true {l : List Pe} (h : arePs l) : psB l = true := by unfold psB; simp [h]
theorem psB_false {l : List Pe} (h : ¬ arePs l) : psB l = false := by unfold psB; simp [h]
theorem psB_iff (l : List Pe) : psB l = true ↔ arePs l := by unfold psB; simp
open Classical in
noncomputable def stB (s : St) : Bool := decide (isSt s)
theorem stB_true {l : St} (h : isSt l) : stB l = true := by unfold stB; simp [h]
theorem stB_false {l : St} (h : ¬ isSt l) : stB l = false := by unfold stB; simp [h]
theorem stB_iff (l : St) : stB l = true ↔ isSt l := by unfold stB; simp
open Classical in
noncomputable def goB (p : Bs) (l : List Bs) : Bool := decide (areGo p l)
theorem goB_true {p : Bs} {l : List Bs} (h : areGo p l) : goB p l = true := by unfold goB; simp [h]
theorem goB_false {p : Bs} {l : List Bs} (h : ¬ areGo p l) : goB p l = false := by unfold goB; simp [h]
theorem goB_iff (p : Bs) (l : List Bs) : goB p l = true ↔ areGo p l := by unfold goB; simp

theorem boxP8 {w : World} {b : Nat} {T : TypeId} {c0 c1 c2 c3 c4 c5 c6 c7 : Value} (h : w.heap[b]? = some (.cells #[c0, c1, c2, c3, c4, c5, c6, c7] T (0, 0))) :
    w.cell? ⟨b, 0, none⟩ = some c0 ∧ w.cell? ⟨b, 1, none⟩ = some c1 ∧ w.cell? ⟨b, 2, none⟩ = some c2 ∧ w.cell? ⟨b, 3, none⟩ = some c3 ∧ w.cell? ⟨b, 4, none⟩ = some c4 ∧ w.cell? ⟨b, 5, none⟩ = some c5 ∧ w.cell? ⟨b, 6, none⟩ = some c6 ∧ w.cell? ⟨b, 7, none⟩ = some c7 :=
  ⟨by rw [cell_of_row _ _ _ _ _ _ h]; rfl, by rw [cell_of_row _ _ _ _ _ _ h]; rfl, by rw [cell_of_row _ _ _ _ _ _ h]; rfl, by rw [cell_of_row _ _ _ _ _ _ h]; rfl, by rw [cell_of_row _ _ _ _ _ _ h]; rfl, by rw [cell_of_row _ _ _ _ _ _ h]; rfl, by rw [cell_of_row _ _ _ _ _ _ h]; rfl, by rw [cell_of_row _ _ _ _ _ _ h]; rfl⟩
theorem pe_cells {w : World} {g o : Nat} {x : Pe} (h : ElAt peC w g o x) :
    w.cell? ⟨g, o, none⟩ = some (.int .i64 x.op) ∧ w.cell? ⟨g, o + 1, none⟩ = some (.int .i64 x.p.kind) ∧ w.cell? ⟨g, o + 2, none⟩ = some (.string (B x.p.dir)) ∧ w.cell? ⟨g, o + 3, none⟩ = some (.string (B x.p.path)) ∧ w.cell? ⟨g, o + 4, none⟩ = some (.string (B x.p.data)) ∧
    w.cell? ⟨g, o + 5, none⟩ = some (.int .i64 x.p.ver) ∧ w.cell? ⟨g, o + 6, none⟩ = some (.int .i64 x.p.own) ∧ w.cell? ⟨g, o + 7, none⟩ = some (.bool x.p.turns) :=
  ⟨h.get 0 _ rfl, h.get 1 _ rfl, h.get 2 _ rfl, h.get 3 _ rfl, h.get 4 _ rfl, h.get 5 _ rfl, h.get 6 _ rfl, h.get 7 _ rfl⟩

set_option maxHeartbeats 8000000 in
theorem arePs_c (v : Value) (l : List Pe) (w : World) (hv : Sg peC 8 w v l) (hs : ∀ x ∈ l, x.p.path.length ≤ 140737488355328) :
    Calls Try.prog 39 #[v] w fun e w' => e = .returned (.bool (psB l)) ∧ Fp Non w w' := by
  obtain ⟨ao, cap, rfl⟩ := hv.shape
  obtain ⟨n, hnn⟩ : ∃ n, n = l.length := ⟨_, rfl⟩
  obtain ⟨r, hr⟩ : ∃ r, psB l = r := ⟨_, rfl⟩
  by_cases h16 : 16 < n
  · have t0 : ((16 : Int) < (n : Int)) = True := eq_true (by omega)
    have t1 : (16 < n) = True := eq_true h16
    have HN := Lib.hid (show r = false from by rw [← hr]; exact psB_false (fun h => by have := h.1; omega))
    rw [hr, ← hnn]
    clear hv hnn hr h16 hs
    go_enter Try.func39, Try.ntmps39
    go_wp2
    go_ret
    exact ⟨by rw [HN.out]; rfl, Fp.refl _ _⟩
  have t0 : ((16 : Int) < (n : Int)) = False := eq_false (by omega)
  have t1 : (16 < n) = False := eq_false h16
  have hall : (∀ k (h : k < l.length), ChkPe l k h) → r = true := fun h => by
    rw [← hr]; exact psB_true ((arePs_iff l).2 ⟨by omega, h⟩)
  have hnone : ∀ k (h : k < l.length), ¬ ChkPe l k h → r = false := fun k h hn => by
    rw [← hr]; exact psB_false (fun c => hn (((arePs_iff l).1 c).2 k h))
  have HX := Lib.hid (And.intro hnn (And.intro hv (And.intro hall (And.intro hnone hs))))
  have hnb : n ≤ 16 := by omega
  rw [hr, ← hnn]
  clear hv hnn hr hall hnone h16 hs
  go_enter Try.func39, Try.ntmps39
  go_wp2_with fail
  go_loopw [3, 11] (fun m i wr => ∃ k : Nat, k ≤ n ∧ i = .int .i64 k ∧ m = .int .i64 (lst l k) ∧ Hid (Fp Non w wr ∧ ∀ j (h : j < l.length), j < k → ChkPe l j h)) (fun _ i _ => n - (RowKit.intOf i).toNat)
  case atStart => exact ⟨0, Nat.zero_le _, rfl, by simp [lst], Fp.refl _ _, fun j _ h => absurd h (Nat.not_lt_zero j)⟩
  case round =>
    obtain ⟨k, hk, rfl, rfl, hR⟩ := hrel
    rename_i wr _
    by_cases hlt : k < n
    · have hkl : k < l.length := by rw [← HX.out.1]; exact hlt
      obtain ⟨g, o, cap', e, hcell⟩ := HX.out.2.1.at (by omega)
      injection e with e1 e2 e3
      subst e1 e3
      obtain ⟨c0, c1, c2, c3, c4, c5, c6, c7⟩ := pe_cells ((hcell k hkl).keep hR.out.1 (fun h => h))
      have hstep : ChkPe l k hkl → ∀ j (h : j < l.length), j < k + 1 → ChkPe l j h := fun h j hj hjk => by
        rcases Nat.lt_or_eq_of_le (show j ≤ k by omega) with e | e
        · exact hR.out.2 j hj e
        · subst e; exact h
      have hno := HX.out.2.2.2.1 k hkl
      have hsu := lst_succ l k hkl
      have hxp := HX.out.2.2.2.2 _ (List.getElem_mem hkl)
      unfold ChkPe at hno
      unfold ChkPe at hstep
      generalize lst l k = m at *
      generalize l[k] = x at *
      obtain ⟨op, x⟩ := x
      have hmc := fun w => mayP_c x w hxp
      obtain ⟨mp, hmp⟩ : ∃ b, mayP x = b := ⟨_, rfl⟩
      simp only at hno hstep c0 c1 c2 c3 c4 c5 c6 c7 hsu
      rw [hmp] at hno hstep
      simp only [hmp] at hmc
      unfold ptV strV at hmc
      obtain ⟨kd, d, p, da, vr, ow, tn⟩ := x
      simp only at hno hstep hmc c0 c1 c2 c3 c4 c5 c6 c7
      have q3 : ((k : Int) < (n : Int)) = True := eq_true (by omega)
      have q4 : (k < n) = True := eq_true hlt
      have HL := Lib.hid (And.intro hlt (And.intro hstep (And.intro hno hsu)))
      have HF := Lib.hid (hR.out.1.then (fp_alloc wr (.cells #[.int .i64 op, .int .i64 kd, .string (B d), .string (B p), .string (B da), .int .i64 vr, .int .i64 ow, .bool tn] 101)))
      have HM := Lib.hid hmc
      clear hcell hkl hlt hstep hno hxp hmp hmc hsu
      by_cases h1 : op < m
      · have s1 : (op < m) = True := eq_true h1
        have HN := Lib.hid (HL.out.2.2.1 (fun h => by have := h.1; omega))
        clear h1
        go_wp2
        go_ret
        exact ⟨by rw [HN.out]; rfl, HF.out⟩
      have s1 : (op < m) = False := eq_false h1
      by_cases h2 : 8 ≤ op
      · have s2 : (8 ≤ op) = True := eq_true h2
        have HN := Lib.hid (HL.out.2.2.1 (fun h => by have := h.2.1; omega))
        clear h1 h2
        go_wp2
        go_ret
        exact ⟨by rw [HN.out]; rfl, HF.out⟩
      have s2 : (8 ≤ op) = False := eq_false h2
      have HO := Lib.hid (And.intro (Int.not_lt.1 h1) (Int.not_le.1 h2))
      clear h1 h2
      cases mp with
      | false =>
        have HN := Lib.hid (HL.out.2.2.1 (fun h => by have := h.2.2.1; exact Bool.noConfusion this))
        go_wp2_with fail
        refine (HM.out _).mono ?_
        rintro e w1 ⟨rfl, hf⟩
        have HF1 := Lib.hid (HF.out.then hf)
        clear hf
        go_wp2
        go_ret
        exact ⟨by rw [HN.out]; rfl, HF1.out⟩
      | true =>
        by_cases h3 : vr = 281474976710656
        · subst h3
          have HN := Lib.hid (HL.out.2.2.1 (fun h => h.2.2.2 rfl))
          have hb := heap_alloc_new wr (.cells #[.int .i64 op, .int .i64 kd, .string (B d), .string (B p), .string (B da), .int .i64 281474976710656, .int .i64 ow, .bool tn] 101)
          have HB := Lib.hid hb
          clear hb
          go_wp2_with fail
          refine (HM.out _).mono ?_
          rintro e w1 ⟨rfl, hf⟩
          have d5 := (boxP8 (hf.heap HB.out (fun h => h))).2.2.2.2.2.1
          have HF1 := Lib.hid (HF.out.then hf)
          clear hf
          go_wp2
          go_ret
          exact ⟨by rw [HN.out]; rfl, HF1.out⟩
        · have s3 : (vr == 281474976710656) = false := beq_eq_false_iff_ne.2 h3
          have s4 : (vr = 281474976710656) = False := eq_false h3
          have HN := Lib.hid (HL.out.2.1 ⟨HO.out.1, HO.out.2, rfl, h3⟩)
          have hb := heap_alloc_new wr (.cells #[.int .i64 op, .int .i64 kd, .string (B d), .string (B p), .string (B da), .int .i64 vr, .int .i64 ow, .bool tn] 101)
          have HB := Lib.hid hb
          have hkn := HL.out.1
          clear hb h3
          go_wp2_with fail
          refine (HM.out _).mono ?_
          rintro e w1 ⟨rfl, hf⟩
          have hb1 := boxP8 (hf.heap HB.out (fun h => h))
          have d5 := hb1.2.2.2.2.2.1
          have d0 := hb1.1
          have HF1 := Lib.hid (HF.out.then hf)
          clear hf hb1
          go_wp2
          go_roundw
          case rel => exact ⟨k + 1, by omega, by go_num, by rw [HL.out.2.2.2], HF1.out, HN.out⟩
          case measure => simp [RowKit.intOf]; omega
    · have hke : k = n := by omega
      subst hke
      have q3 : ((k : Int) < (k : Int)) = False := eq_false (by omega)
      have HT := Lib.hid (HX.out.2.2.1 (fun j h => hR.out.2 j h (by rw [HX.out.1]; exact h)))
      clear hlt hk
      go_wp2
      go_ret
      exact ⟨by rw [HT.out]; rfl, hR.out.1⟩

set_option maxHeartbeats 4000000 in
theorem isSt_c (v : Value) (s : St) (w : World) (hv : Sto w v s) (hs : Sp s.nodes) (hn : s.nodes.length ≤ 140737488355328) (hst : ∀ t ∈ s.turns, t.dir.length ≤ 140737488355328) (hmm : s.turns.length ≤ 140737488355328) :
    Calls Try.prog 40 #[v] w fun e w' => e = .returned (.bool (stB s)) ∧ Fp Non w w' := by
  obtain ⟨vn, vt, rfl, h1, h2⟩ := hv.ex
  obtain ⟨ao, cap, rfl⟩ := h1.shape
  obtain ⟨at', capt, rfl⟩ := h2.shape
  obtain ⟨n, hnn⟩ : ∃ n, n = s.nodes.length := ⟨_, rfl⟩
  obtain ⟨m, hm⟩ : ∃ m, m = s.turns.length := ⟨_, rfl⟩
  have HF := Lib.hid (fp_alloc w (.cells #[.slice ao s.nodes.length cap, .slice at' s.turns.length capt] 34))
  have hb := heap_alloc_new w (.cells #[.slice ao s.nodes.length cap, .slice at' s.turns.length capt] 34)
  have hrc := rightP_c _ s (w.alloc (.cells #[.slice ao s.nodes.length cap, .slice at' s.turns.length capt] 34)) (hv.non HF.out) hs hn hst hmm
  rw [← hnn, ← hm] at HF hb hrc
  rw [← hnn, ← hm]
  have HRC := Lib.hid hrc
  by_cases h5 : n ≤ 512
  · have t0 : ((n : Int) ≤ 512) = True := eq_true (by omega)
    have t1 : (n ≤ 512) = True := eq_true h5
    by_cases h6 : m ≤ 512
    · have t2 : ((m : Int) ≤ 512) = True := eq_true (by omega)
      have t3 : (m ≤ 512) = True := eq_true h6
      obtain ⟨r, hr⟩ : ∃ r, rightS s = r := ⟨_, rfl⟩
      have he : stB s = r := by
        cases r with
        | true => exact stB_true ⟨by omega, by omega, (rightS_iff s).1 hr⟩
        | false => exact stB_false (fun h => by rw [rightS_true h.2.2] at hr; exact Bool.noConfusion hr)
      rw [he]
      rw [hr] at HRC
      clear h1 h2 hv hnn hm hs hn hst hmm hb hrc h5 h6 hr he
      go_enter Try.func40, Try.ntmps40
      go_wp2_with fail
      refine HRC.out.mono ?_
      rintro e w1 ⟨rfl, hf⟩
      have HF1 := Lib.hid (HF.out.then hf)
      clear hf
      cases r <;> (go_wp2; go_ret; exact ⟨rfl, HF1.out⟩)
    · have t2 : ((m : Int) ≤ 512) = False := eq_false (by omega)
      have t3 : (m ≤ 512) = False := eq_false h6
      rw [stB_false (fun h => h6 (by have := h.2.1; omega))]
      clear h1 h2 hv hnn hm hs hn hst hmm hb hrc h5 h6 HRC
      go_enter Try.func40, Try.ntmps40
      go_wp2
      go_ret
      exact ⟨rfl, HF.out⟩
  · have t0 : ((n : Int) ≤ 512) = False := eq_false (by omega)
    have t1 : (n ≤ 512) = False := eq_false h5
    rw [stB_false (fun h => h5 (by have := h.1; omega))]
    clear h1 h2 hv hnn hm hs hn hst hmm hb hrc h5 HRC
    go_enter Try.func40, Try.ntmps40
    go_wp2
    go_ret
    exact ⟨rfl, HF.out⟩
end Go.Proofs.Ytdfnfkknbjageaa

/- Prefixes that are kept elsewhere; a command: may they be? -/
namespace Go.Proofs.Ytdfnfkknbjageaa
set_option maxRecDepth 20000
set_option linter.unusedVariables false
set_option linter.unusedSimpArgs false
open Go.RowKit Pm

def ChkGo (pre : Bs) (l : List Bs) (k : Nat) (h : k < l.length) : Prop := l[k] ≠ pre ∧ inB l[k] pre = true ∧ (∀ (_ : 0 < k) (h1 : k - 1 < l.length), lt l[k - 1] l[k] = true)

set_option maxHeartbeats 8000000 in
theorem areIn_c (pre : Bs) (v : Value) (l : List Bs) (w : World) (hv : Tx w v l) (hp : pre.length ≤ 140737488355328) (hs : ∀ x ∈ l, x.length ≤ 140737488355328) :
    Calls Try.prog 41 #[.string (B pre), v] w fun e w' => e = .returned (.bool (goB pre l)) ∧ Fp Non w w' := by
  obtain ⟨ao, cap, rfl⟩ := hv.shape
  obtain ⟨n, hnn⟩ : ∃ n, n = l.length := ⟨_, rfl⟩
  obtain ⟨r, hr⟩ : ∃ r, goB pre l = r := ⟨_, rfl⟩
  by_cases h16 : 32 < n
  · have t0 : ((32 : Int) < (n : Int)) = True := eq_true (by omega)
    have t1 : (32 < n) = True := eq_true h16
    have HN := Lib.hid (show r = false from by rw [← hr]; exact goB_false (fun h => by have := h.1; omega))
    rw [hr, ← hnn]
    clear hv hnn hr h16 hs
    go_enter Try.func41, Try.ntmps41
    go_wp2
    go_ret
    exact ⟨by rw [HN.out]; rfl, Fp.refl _ _⟩
  have t0 : ((32 : Int) < (n : Int)) = False := eq_false (by omega)
  have t1 : (32 < n) = False := eq_false h16
  have hall : (∀ k (h : k < l.length), ChkGo pre l k h) → r = true := fun h => by
    rw [← hr]; exact goB_true ⟨by omega, h⟩
  have hnone : ∀ k (h : k < l.length), ¬ ChkGo pre l k h → r = false := fun k h hn => by
    rw [← hr]; exact goB_false (fun c => hn (c.2 k h))
  have HX := Lib.hid (And.intro hnn (And.intro hv (And.intro hall (And.intro hnone (And.intro hs hp)))))
  have hnb : n ≤ 32 := by omega
  rw [hr, ← hnn]
  clear hv hnn hr hall hnone h16 hs hp
  go_enter Try.func41, Try.ntmps41
  go_wp2_with fail
  go_loopw [12] (fun i wr => ∃ k : Nat, k ≤ n ∧ i = .int .i64 k ∧ Hid (Fp Non w wr ∧ ∀ j (h : j < l.length), j < k → ChkGo pre l j h)) (fun i _ => n - (RowKit.intOf i).toNat)
  case atStart => exact ⟨0, Nat.zero_le _, rfl, Fp.refl _ _, fun j _ h => absurd h (Nat.not_lt_zero j)⟩
  case round =>
    obtain ⟨k, hk, rfl, hR⟩ := hrel
    rename_i wr _
    by_cases hlt : k < n
    · have hkl : k < l.length := by rw [← HX.out.1]; exact hlt
      obtain ⟨g, o, cap', e, hcell⟩ := HX.out.2.1.at (by omega)
      injection e with e1 e2 e3
      subst e1 e3
      have c0 := hR.out.1.cell (hcell k hkl) (fun h => h)
      have hprev : ∀ h0 : 0 < k, ∀ W, Fp Non wr W → ∃ z, W.cell? ⟨g, o + (k - 1), none⟩ = some (.string (B z)) ∧ ∀ h1 : k - 1 < l.length, z = l[k - 1] := fun h0 W f => by
        have h1 : k - 1 < l.length := by omega
        exact ⟨l[k - 1], (hR.out.1.then f).cell (hcell (k - 1) h1) (fun h => h), fun _ => rfl⟩
      have hstep : ChkGo pre l k hkl → ∀ j (h : j < l.length), j < k + 1 → ChkGo pre l j h := fun h j hj hjk => by
        rcases Nat.lt_or_eq_of_le (show j ≤ k by omega) with e | e
        · exact hR.out.2 j hj e
        · subst e; exact h
      have hno := HX.out.2.2.2.1 k hkl
      have hxp := HX.out.2.2.2.2.1 _ (List.getElem_mem hkl)
      have hk1 : k - 1 < l.length := by omega
      unfold ChkGo at hno
      unfold ChkGo at hstep
      have HC0 := Lib.hid (And.intro hstep (And.intro hno hprev))
      clear hstep hno hprev hcell
      generalize l[k] = x at *
      have hic := fun w => In_c x pre w (by omega) (by have := HX.out.2.2.2.2.2; omega)
      obtain ⟨ip, hip⟩ : ∃ b, inB x pre = b := ⟨_, rfl⟩
      simp only [hip] at hic
      have q3 : ((k : Int) < (n : Int)) = True := eq_true (by omega)
      have q4 : (k < n) = True := eq_true hlt
      have HL := Lib.hid (And.intro hlt (And.intro hip hk1))
      have HI := Lib.hid hic
      clear hkl hlt hip hic hxp hk1
      by_cases h1 : x = pre
      · subst h1
        have HN := Lib.hid (HC0.out.2.1 (fun h => h.1 rfl))
        go_wp2
        go_ret
        exact ⟨by rw [HN.out]; rfl, hR.out.1⟩
      have s1 : (x == pre) = false := beq_eq_false_iff_ne.2 h1
      have s2 : (x = pre) = False := eq_false h1
      have H1 := Lib.hid h1
      clear h1
      cases ip with
      | false =>
        have HN := Lib.hid (HC0.out.2.1 (fun h => by have := h.2.1; rw [HL.out.2.1] at this; exact Bool.noConfusion this))
        go_wp2_with fail
        refine (HI.out _).mono ?_
        rintro e w1 ⟨rfl, hf⟩
        have HF1 := Lib.hid (hR.out.1.then (Fp.of_below hf))
        clear hf
        go_wp2
        go_ret
        exact ⟨by rw [HN.out]; rfl, HF1.out⟩
      | true =>
        rcases Nat.eq_zero_or_pos k with h0 | h0
        · subst h0
          simp only [Nat.add_zero] at c0
          have HN := Lib.hid (HC0.out.1 ⟨H1.out, HL.out.2.1, fun h => absurd h (Nat.lt_irrefl 0)⟩)
          have hkn := HL.out.1
          go_wp2_with fail
          refine (HI.out _).mono ?_
          rintro e w1 ⟨rfl, hf⟩
          have HF1 := Lib.hid (hR.out.1.then (Fp.of_below hf))
          clear hf
          go_wp2
          go_roundw
          case rel => exact ⟨1, by omega, rfl, HF1.out, HN.out⟩
          case measure => simp [RowKit.intOf]; omega
        · have p1 : ((0 : Int) < (k : Int)) = True := eq_true (by omega)
          have p2 : (0 < k) = True := eq_true h0
          have hkn := HL.out.1
          have p3 : ((k : Int) - 1 < (n : Int)) = True := eq_true (by omega)
          have p4 : ((0 : Int) ≤ (k : Int) - 1) = True := eq_true (by omega)
          have hsub : (k : Int) - 1 = ((k - 1 : Nat) : Int) := by omega
          go_wp2_with fail
          refine (HI.out _).mono ?_
          rintro e w1 ⟨rfl, hf⟩
          obtain ⟨z, hz, hzl⟩ := HC0.out.2.2 h0 w1 (Fp.of_below hf)
          have HF1 := Lib.hid (hR.out.1.then (Fp.of_below hf))
          have HZ := Lib.hid (hzl HL.out.2.2)
          have hk1n : k - 1 < n := by omega
          clear hf hzl
          obtain ⟨bb, hbb⟩ : ∃ b, (Op.bytesLess x z || x == z) = b := ⟨_, rfl⟩
          cases bb with
          | true =>
            have HN := Lib.hid (HC0.out.2.1 (fun h => by have h5 := h.2.2 h0 HL.out.2.2; rw [← HZ.out, notUp hbb] at h5; exact Bool.noConfusion h5))
            go_wp2
            go_ret
            exact ⟨by rw [HN.out]; rfl, HF1.out⟩
          | false =>
            have HN := Lib.hid (HC0.out.1 ⟨H1.out, HL.out.2.1, fun _ h1 => by rw [← HZ.out]; exact isUp hbb⟩)
            go_wp2
            go_roundw
            case rel => exact ⟨k + 1, by omega, by go_num, HF1.out, HN.out⟩
            case measure => simp [RowKit.intOf]; omega
    · have hke : k = n := by omega
      subst hke
      have q3 : ((k : Int) < (k : Int)) = False := eq_false (by omega)
      have HT := Lib.hid (HX.out.2.2.1 (fun j h => hR.out.2 j h (by rw [HX.out.1]; exact h)))
      clear hlt hk
      go_wp2
      go_ret
      exact ⟨by rw [HT.out]; rfl, hR.out.1⟩
end Go.Proofs.Ytdfnfkknbjageaa

/- A command: may it be? -/
namespace Go.Proofs.Ytdfnfkknbjageaa
set_option maxRecDepth 20000
set_option linter.unusedVariables false
set_option linter.unusedSimpArgs false
open Go.RowKit Pm

/-- A command's box. -/
structure BxC (w : World) (b : Nat) (c : Cd) (vp vn vt vg : Value) : Prop where
  c0 : w.cell? ⟨b, 0, none⟩ = some (.int .i64 c.kind)
  c1 : w.cell? ⟨b, 1, none⟩ = some (.int .i64 c.id)
  c2 : w.cell? ⟨b, 2, none⟩ = some (.int .i64 c.txn)
  c3 : w.cell? ⟨b, 3, none⟩ = some (.int .i64 c.age)
  c4 : w.cell? ⟨b, 4, none⟩ = some (.bool c.yes)
  c5 : w.cell? ⟨b, 5, none⟩ = some vp
  c6 : w.cell? ⟨b, 6, none⟩ = some (.string (B c.pre))
  c7 : w.cell? ⟨b, 7, none⟩ = some (.int .i64 c.ep)
  c8 : w.cell? ⟨b, 8, none⟩ = some (.int .i64 c.to)
  c9 : w.cell? ⟨b, 9, none⟩ = some vn
  c10 : w.cell? ⟨b, 10, none⟩ = some vt
  c11 : w.cell? ⟨b, 11, none⟩ = some vg
  c12 : w.cell? ⟨b, 12, none⟩ = some (.int .i64 c.ws)
  c13 : w.cell? ⟨b, 13, none⟩ = some (.int .i64 c.wn)
  c14 : w.cell? ⟨b, 14, none⟩ = some (.string (B c.wp))
  c15 : w.cell? ⟨b, 15, none⟩ = some (.bool c.deep)
theorem bxC {w : World} {b : Nat} {c : Cd} {vp vn vt vg : Value} (h : w.heap[b]? = some (.cells (cdL c vp vn vt vg) TCD (0, 0))) : BxC w b c vp vn vt vg := by
  constructor <;> (rw [cell_of_row _ _ _ _ _ _ h]; rfl)

set_option maxHeartbeats 16000000 in
theorem cRight_c (v : Value) (c : Cd) (w : World) (hv : CdW w v c) (hw : Fw c) :
    Calls Try.prog 22 #[v] w fun e w' => e = .returned (.bool (rightC c)) ∧ Fp Non w w' := by
  obtain ⟨vp, vn, vt, vg, rfl, h1, h2, h3, h4⟩ := hv.ex
  obtain ⟨ap, cp, rfl⟩ := h1.shape
  obtain ⟨an, cn, rfl⟩ := h2.shape
  obtain ⟨at', ct, rfl⟩ := h3.shape
  obtain ⟨ag, cg, rfl⟩ := h4.shape
  obtain ⟨r, hr⟩ : ∃ r, rightC c = r := ⟨_, rfl⟩
  have hno : ¬ CdR c → r = false := fun h => by rw [← hr]; exact rightC_false h
  have hyes : CdR c → r = true := fun h => by rw [← hr]; exact rightC_true h
  rw [hr]
  have hb := heap_alloc_new w (.cells (cdL c (.slice ap c.ps.length cp) (.slice an c.st.nodes.length cn) (.slice at' c.st.turns.length ct) (.slice ag c.gone.length cg)) TCD)
  have HF := Lib.hid (fp_alloc w (.cells (cdL c (.slice ap c.ps.length cp) (.slice an c.st.nodes.length cn) (.slice at' c.st.turns.length ct) (.slice ag c.gone.length cg)) TCD))
  have H0 := Lib.hid (And.intro hb (And.intro h1 (And.intro h2 (And.intro h3 h4))))
  have HR := Lib.hid (And.intro hno (And.intro hyes hw))
  clear h1 h2 h3 h4 hv hw hno hyes hr hb
  unfold cdL at HF H0 ⊢
  by_cases k1 : c.kind < 1
  · have t1 : (c.kind < 1) = True := eq_true k1
    have HN := Lib.hid (HR.out.1 (fun h => by have := h.kind; omega))
    clear k1
    go_enter Try.func22, Try.ntmps22
    go_wp2
    go_ret
    exact ⟨by rw [HN.out]; rfl, HF.out⟩
  have t1 : (c.kind < 1) = False := eq_false k1
  by_cases k2 : 13 < c.kind
  · have t2 : (13 < c.kind) = True := eq_true k2
    have HN := Lib.hid (HR.out.1 (fun h => by have := h.kind; omega))
    clear k1 k2
    go_enter Try.func22, Try.ntmps22
    go_wp2
    go_ret
    exact ⟨by rw [HN.out]; rfl, HF.out⟩
  have t2 : (13 < c.kind) = False := eq_false k2
  by_cases k3 : c.to < 0
  · have t3 : (c.to < 0) = True := eq_true k3
    have HN := Lib.hid (HR.out.1 (fun h => by have := h.to; omega))
    clear k1 k2 k3
    go_enter Try.func22, Try.ntmps22
    go_wp2
    go_ret
    exact ⟨by rw [HN.out]; rfl, HF.out⟩
  have t3 : (c.to < 0) = False := eq_false k3
  by_cases k4 : 4 ≤ c.to
  · have t4 : (4 ≤ c.to) = True := eq_true k4
    have HN := Lib.hid (HR.out.1 (fun h => by have := h.to; omega))
    clear k1 k2 k3 k4
    go_enter Try.func22, Try.ntmps22
    go_wp2
    go_ret
    exact ⟨by rw [HN.out]; rfl, HF.out⟩
  have t4 : (4 ≤ c.to) = False := eq_false k4
  have HK := Lib.hid (show (1 ≤ c.kind ∧ c.kind ≤ 13) ∧ 0 ≤ c.to ∧ c.to < 4 from ⟨⟨by omega, by omega⟩, by omega, by omega⟩)
  clear k1 k2 k3 k4
  have HB0 := Lib.hid (bxC (c := c) H0.out.1)
  obtain ⟨W0, hW0⟩ : ∃ W0, W0 = w.alloc (.cells #[.int .i64 c.kind, .int .i64 c.id, .int .i64 c.txn, .int .i64 c.age, .bool c.yes, .slice ap c.ps.length cp, .string (B c.pre), .int .i64 c.ep, .int .i64 c.to, .slice an c.st.nodes.length cn, .slice at' c.st.turns.length ct, .slice ag c.gone.length cg, .int .i64 c.ws, .int .i64 c.wn, .string (B c.wp), .bool c.deep] TCD) := ⟨_, rfl⟩
  have hsz : W0.heap.size = w.heap.size + 1 := by rw [hW0]; simp
  have HA := Lib.hid (areNums_c (.slice (some ⟨W0.heap.size, 0, none⟩) 6 6) [c.id, c.txn, c.age, c.ep, c.ws, c.wn] (W0.alloc (.cells #[.int .i64 c.id, .int .i64 c.txn, .int .i64 c.age, .int .i64 c.ep, .int .i64 c.ws, .int .i64 c.wn] 2)) (Sg.block (l := [c.id, c.txn, c.age, c.ep, c.ws, c.wn]) inC_len (heap_alloc_new W0 (.cells #[.int .i64 c.id, .int .i64 c.txn, .int .i64 c.age, .int .i64 c.ep, .int .i64 c.ws, .int .i64 c.wn] 2)) rfl 6) (by simp))
  have HF1 := Lib.hid (HF.out.then (fp_alloc (w.alloc (.cells #[.int .i64 c.kind, .int .i64 c.id, .int .i64 c.txn, .int .i64 c.age, .bool c.yes, .slice ap c.ps.length cp, .string (B c.pre), .int .i64 c.ep, .int .i64 c.to, .slice an c.st.nodes.length cn, .slice at' c.st.turns.length ct, .slice ag c.gone.length cg, .int .i64 c.ws, .int .i64 c.wn, .string (B c.wp), .bool c.deep] TCD)) (.cells #[.int .i64 c.id, .int .i64 c.txn, .int .i64 c.age, .int .i64 c.ep, .int .i64 c.ws, .int .i64 c.wn] 2)))
  rw [← hW0] at HB0 HF1
  have HB1 := Lib.hid (show BxC (W0.alloc (.cells #[.int .i64 c.id, .int .i64 c.txn, .int .i64 c.age, .int .i64 c.ep, .int .i64 c.ws, .int .i64 c.wn] 2)) w.heap.size c (.slice ap c.ps.length cp) (.slice an c.st.nodes.length cn) (.slice at' c.st.turns.length ct) (.slice ag c.gone.length cg) from bxC ((fp_alloc W0 _).heap (by rw [hW0]; exact H0.out.1) (fun h => h)))
  have hb1 : (W0.alloc (.cells #[.int .i64 c.id, .int .i64 c.txn, .int .i64 c.age, .int .i64 c.ep, .int .i64 c.ws, .int .i64 c.wn] 2)).heap[w.heap.size]? = some (.cells (cdL c (.slice ap c.ps.length cp) (.slice an c.st.nodes.length cn) (.slice at' c.st.turns.length ct) (.slice ag c.gone.length cg)) TCD (0, 0)) := (fp_alloc W0 _).heap (by rw [hW0]; exact H0.out.1) (fun h => h)
  have HH := Lib.hid hb1
  clear hb1
  have HS := Lib.hid hsz
  obtain ⟨a0, ha0⟩ : ∃ b, areNum [c.id, c.txn, c.age, c.ep, c.ws, c.wn] = b := ⟨_, rfl⟩
  obtain ⟨a1, ha1⟩ : ∃ b, isPe c.pre = b := ⟨_, rfl⟩
  obtain ⟨a2, ha2⟩ : ∃ b, isPe c.wp = b := ⟨_, rfl⟩
  obtain ⟨a3, ha3⟩ : ∃ b, psB c.ps = b := ⟨_, rfl⟩
  obtain ⟨a4, ha4⟩ : ∃ b, stB c.st = b := ⟨_, rfl⟩
  obtain ⟨a5, ha5⟩ : ∃ b, goB c.pre c.gone = b := ⟨_, rfl⟩
  have HY := Lib.hid (And.intro ha0 (And.intro ha1 (And.intro ha2 (And.intro ha3 (And.intro ha4 ha5)))))
  rw [ha0] at HA
  have C1 := Lib.hid (show ∀ W, Calls Try.prog 38 #[.string (B c.pre)] W fun e w' => e = .returned (.bool a1) ∧ Fp Non W w' from fun W => by have := isPe_c c.pre W HR.out.2.2.pre; rwa [ha1] at this)
  have C2 := Lib.hid (show ∀ W, Calls Try.prog 38 #[.string (B c.wp)] W fun e w' => e = .returned (.bool a2) ∧ Fp Non W w' from fun W => by have := isPe_c c.wp W HR.out.2.2.wp; rwa [ha2] at this)
  have C3 := Lib.hid (show ∀ W, Fp Non w W → Calls Try.prog 39 #[.slice ap c.ps.length cp] W fun e w' => e = .returned (.bool a3) ∧ Fp Non W w' from fun W f => by
    have := arePs_c _ c.ps W (H0.out.2.1.non f) (fun x hx => (HR.out.2.2.ps x hx).2.1); rwa [ha3] at this)
  have C4 := Lib.hid (show ∀ W, Fp Non w W → Calls Try.prog 40 #[.agg #[.slice an c.st.nodes.length cn, .slice at' c.st.turns.length ct]] W fun e w' => e = .returned (.bool a4) ∧ Fp Non W w' from fun W f => by
    have := isSt_c _ c.st W ⟨_, _, rfl, H0.out.2.2.1.non f, H0.out.2.2.2.1.non f⟩ (fun x hx => (HR.out.2.2.nodes x hx).1) HR.out.2.2.nn HR.out.2.2.turns HR.out.2.2.tn; rwa [ha4] at this)
  have C5 := Lib.hid (show ∀ W, Fp Non w W → Calls Try.prog 41 #[.string (B c.pre), .slice ag c.gone.length cg] W fun e w' => e = .returned (.bool a5) ∧ Fp Non W w' from fun W f => by
    have := areIn_c c.pre _ c.gone W (H0.out.2.2.2.2.non f) HR.out.2.2.pre HR.out.2.2.gone; rwa [ha5] at this)
  clear ha0 ha1 ha2 ha3 ha4 ha5
  go_enter Try.func22, Try.ntmps22
  go_wp2_with fail
  rw [show (45 : TypeId) = TCD from rfl, ← hW0, ← hsz]
  clear hW0 hsz
  refine HA.out.mono ?_
  rintro e w1 ⟨rfl, hf⟩
  have hh := hf.heap HH.out (fun h => h)
  have HF2 := Lib.hid (HF1.out.then hf)
  have HH2 := Lib.hid hh
  have b := bxC (c := c) hh
  have d6 := b.c6; have d14 := b.c14
  clear hf hh b HA
  cases a0 with
  | false =>
    have HN := Lib.hid (HR.out.1 (fun h => by have := h.nums; rw [HY.out.1] at this; exact Bool.noConfusion this))
    go_wp2
    go_ret
    exact ⟨by rw [HN.out]; rfl, HF2.out⟩
  | true =>
  go_wp2_with fail
  refine (C1.out _).mono ?_
  rintro e w2 ⟨rfl, hf⟩
  have hh := hf.heap HH2.out (fun h => h)
  have HF3 := Lib.hid (HF2.out.then hf)
  have HH3 := Lib.hid hh
  have b := bxC (c := c) hh
  clear d6 d14
  have d14 := b.c14
  clear hf hh b
  cases a1 with
  | false =>
    have HN := Lib.hid (HR.out.1 (fun h => by have := h.pre; rw [HY.out.2.1] at this; exact Bool.noConfusion this))
    go_wp2
    go_ret
    exact ⟨by rw [HN.out]; rfl, HF3.out⟩
  | true =>
  go_wp2_with fail
  refine (C2.out _).mono ?_
  rintro e w3 ⟨rfl, hf⟩
  have hh := hf.heap HH3.out (fun h => h)
  have HF4 := Lib.hid (HF3.out.then hf)
  have HH4 := Lib.hid hh
  have b := bxC (c := c) hh
  clear d14
  have d5 := b.c5
  clear hf hh b
  cases a2 with
  | false =>
    have HN := Lib.hid (HR.out.1 (fun h => by have := h.wp; rw [HY.out.2.2.1] at this; exact Bool.noConfusion this))
    go_wp2
    go_ret
    exact ⟨by rw [HN.out]; rfl, HF4.out⟩
  | true =>
  go_wp2_with fail
  refine (C3.out _ HF4.out).mono ?_
  rintro e w4 ⟨rfl, hf⟩
  have hh := hf.heap HH4.out (fun h => h)
  have HF5 := Lib.hid (HF4.out.then hf)
  have HH5 := Lib.hid hh
  have b := bxC (c := c) hh
  clear d5
  have d9 := b.c9; have d10 := b.c10
  clear hf hh b
  cases a3 with
  | false =>
    have HN := Lib.hid (HR.out.1 (fun h => by have := psB_true h.ps; rw [HY.out.2.2.2.1] at this; exact Bool.noConfusion this))
    go_wp2
    go_ret
    exact ⟨by rw [HN.out]; rfl, HF5.out⟩
  | true =>
  go_wp2_with fail
  refine (C4.out _ HF5.out).mono ?_
  rintro e w5 ⟨rfl, hf⟩
  have hh := hf.heap HH5.out (fun h => h)
  have HF6 := Lib.hid (HF5.out.then hf)
  have b := bxC (c := c) hh
  clear d9 d10
  have d6 := b.c6; have d11 := b.c11
  clear hf hh b
  cases a4 with
  | false =>
    have HN := Lib.hid (HR.out.1 (fun h => by have := stB_true h.st; rw [HY.out.2.2.2.2.1] at this; exact Bool.noConfusion this))
    go_wp2
    go_ret
    exact ⟨by rw [HN.out]; rfl, HF6.out⟩
  | true =>
  go_wp2_with fail
  refine (C5.out _ HF6.out).mono ?_
  rintro e w6 ⟨rfl, hf⟩
  have HF7 := Lib.hid (HF6.out.then hf)
  clear d6 d11 hf
  cases a5 with
  | false =>
    have HN := Lib.hid (HR.out.1 (fun h => by have := goB_true h.gone; rw [HY.out.2.2.2.2.2] at this; exact Bool.noConfusion this))
    go_wp2
    go_ret
    exact ⟨by rw [HN.out]; rfl, HF7.out⟩
  | true =>
    have HN := Lib.hid (HR.out.2.1 ⟨HK.out.1, HK.out.2, HY.out.1, HY.out.2.1, HY.out.2.2.1, (psB_iff _).1 HY.out.2.2.2.1, (stB_iff _).1 HY.out.2.2.2.2.1, (goB_iff _ _).1 HY.out.2.2.2.2.2⟩)
    go_wp2
    go_ret
    exact ⟨by rw [HN.out]; rfl, HF7.out⟩
end Go.Proofs.Ytdfnfkknbjageaa

/- Commands loaded and stored whole. (gen_gx.py) -/
namespace Go.Proofs.Ytdfnfkknbjageaa
set_option maxRecDepth 20000
set_option linter.unusedVariables false
set_option linter.unusedSimpArgs false
open Go.RowKit Pm

theorem Try.infoCD : (Try.prog.info? TCD).map (·.size) = some 16 := by kernel_rfl
theorem szC (w : World) : (sizeOf TCD).run Try.prog w = .ok 16 w := by
  have := Try.infoCD
  cases hq : Try.prog.info? TCD with
  | none => simp [hq] at this
  | some i =>
    have hs : i.size = 16 := by simpa [hq] using this
    simp [sizeOf, typeInfo, hq, hs]
theorem aggC (w : World) : (isAgg TCD).run Try.prog w = .ok true w := by
  unfold isAgg
  simp [run_underlying Try.underlying45]
theorem cdL_size (c : Cd) (vp vn vt vg : Value) : (cdL c vp vn vt vg).size = 16 := rfl
/-- Its slices are slices. -/
structure Slc (vp vn vt vg : Value) : Prop where
  p : ∃ a n c, vp = .slice a n c
  n : ∃ a n c, vn = .slice a n c
  t : ∃ a n c, vt = .slice a n c
  g : ∃ a n c, vg = .slice a n c
theorem cdL_one {c : Cd} {vp vn vt vg : Value} (h : Slc vp vn vt vg) : ∀ u ∈ (cdL c vp vn vt vg).toList, u.oneCell' = true := by
  obtain ⟨⟨_, _, _, rfl⟩, ⟨_, _, _, rfl⟩, ⟨_, _, _, rfl⟩, ⟨_, _, _, rfl⟩⟩ := h
  intro u hu
  simp only [cdL, List.mem_cons, List.not_mem_nil, or_false] at hu
  rcases hu with rfl | rfl | rfl | rfl | rfl | rfl | rfl | rfl | rfl | rfl | rfl | rfl | rfl | rfl | rfl | rfl <;> rfl
/-- A command, loaded. -/
theorem lv_cd {w : World} {b : Nat} {cs : Array Value} (h : w.heap[b]? = some (.cells cs TCD (0, 0))) (hs : cs.size = 16) :
    (loadVar TCD ⟨b, 0, none⟩).run Try.prog w = .ok (.agg cs) w := by
  have hl := run_loadCells_list (P := Try.prog) w ⟨b, 0, none⟩ cs.toList (fun j v hv => by
    rw [Addr.add_lit, cell_of_row _ _ _ _ _ _ h, Nat.zero_add, ← hv]; simp)
  rw [Array.length_toList, hs] at hl
  simp only [loadVar, Sem.run_bind, Sem.run_pure, Result.andThen_ok, aggC, if_true, szC, hl]
theorem ld_cd {w : World} {b : Nat} {cs : Array Value} (h : w.heap[b]? = some (.cells cs TCD (0, 0))) (hs : cs.size = 16) :
    (Instr.loadAt TCD (.pointer (some ⟨b, 0, none⟩))).run Try.prog w = .ok (.agg cs) w := by
  simp only [Instr.loadAt, Instr.sureAddr, Sem.run_bind, Sem.run_pure, Result.andThen_ok, lv_cd h hs]
/-- A command, stored. -/
theorem st_cd {w : World} {b : Nat} {cur : Array Value} {c : Cd} {vp vn vt vg : Value} (h : w.heap[b]? = some (.cells cur TCD (0, 0))) (hc : cur.size = 16) (hS : Slc vp vn vt vg) :
    (Instr.storeAt TCD (.pointer (some ⟨b, 0, none⟩)) (.agg (cdL c vp vn vt vg))).run Try.prog w = .ok () (w.setRow b (cdL c vp vn vt vg)) := by
  have hst := run_storeCells_at Try.prog b 0 TCD (cdL c vp vn vt vg).toList 0 cur w h (by rw [Array.length_toList, cdL_size]; omega) (cdL_one hS)
  have e : (cur.toList.take (0 + 0) ++ (cdL c vp vn vt vg).toList ++ cur.toList.drop (0 + 0 + (cdL c vp vn vt vg).toList.length)).toArray = cdL c vp vn vt vg := by
    rw [List.drop_of_length_le (by rw [Array.length_toList, Array.length_toList, cdL_size]; omega)]
    simp
  rw [e] at hst
  have hsz : (Value.agg (cdL c vp vn vt vg)).cells.size = 16 := rfl
  have hcl : (Value.agg (cdL c vp vn vt vg)).cells.toList = (cdL c vp vn vt vg).toList := rfl
  simp only [Instr.storeAt, Instr.sureAddr, storeVar, Sem.run_bind, Sem.run_pure, Result.andThen_ok, szC, hsz, ne_eq, not_true, if_false, hcl, hst]
theorem setRow_alloc (w : World) (cs cs' : Array Value) (T : TypeId) : (w.alloc (.cells cs T)).setRow w.heap.size cs' = w.alloc (.cells cs' T) := by
  unfold World.setRow World.alloc
  congr 1
  apply Array.ext
  · simp
  · intro i h1 h2
    simp only [Array.getElem_modify]
    by_cases hi : w.heap.size = i
    · subst hi; simp
    · have : i < w.heap.size := by simp at h1; omega
      simp [hi, Array.getElem_push_lt this]
/-- A command, stored into a new variable. -/
theorem stn_cd (w : World) {c : Cd} {vp vn vt vg : Value} (hS : Slc vp vn vt vg) :
    (Instr.storeAt TCD (.pointer (some ⟨w.heap.size, 0, none⟩)) (.agg (cdL c vp vn vt vg))).run Try.prog (w.alloc (.cells #[.int .i64 0, .int .i64 0, .int .i64 0, .int .i64 0, .bool false, .slice none 0 0, .string ⟨#[]⟩, .int .i64 0, .int .i64 0, .slice none 0 0, .slice none 0 0, .slice none 0 0, .int .i64 0, .int .i64 0, .string ⟨#[]⟩, .bool false] TCD)) = .ok () (w.alloc (.cells (cdL c vp vn vt vg) TCD)) := by
  rw [st_cd (heap_alloc_new w _) rfl hS, setRow_alloc]
end Go.Proofs.Ytdfnfkknbjageaa

/- A load, a store of a whole command at the operation. -/
namespace Go.Proofs.Ytdfnfkknbjageaa
set_option maxRecDepth 20000
set_option linter.unusedVariables false
set_option linter.unusedSimpArgs false
open Go.RowKit Pm

/-- A load, a store of a whole command at the operation. -/
theorem wpList_ldC {P : Program} {w : World} {ops : Array Oper} {rest : List Oper} {o : Oper} {a : Act} {Q : Exit → Act → World → Prop} (hw : Region.wanted o (yielded ops a.tmps) = true) (t : TypeId) (x : Operand) (ho : o.op = .load t x) (xv r : Value) (hx : a.eval x = xv)
    (hr : (Instr.loadAt t xv).run P w = .ok r w) (h : wpList P ops Q rest (a.put o.dst r) w) : wpList P ops Q (o :: rest) a w := by
  refine wpList_step fun K hK => ?_
  rw [if_pos hw]
  unfold Oper.wp
  simp [execOp, ho, hx, hr, Result.andThen]
  exact hK _ _ h
theorem wpList_stC {P : Program} {w w' : World} {ops : Array Oper} {rest : List Oper} {o : Oper} {a : Act} {Q : Exit → Act → World → Prop} (hgd : o.guard = none) (t : TypeId) (p x : Operand) (ho : o.op = .store t p x) (pv xv : Value) (hp : a.eval p = pv) (hx : a.eval x = xv)
    (hr : (Instr.storeAt t pv xv).run P w = .ok () w') (h : wpList P ops Q rest (a.put o.dst undef) w') : wpList P ops Q (o :: rest) a w := by
  refine wpList_plain hgd fun K hK => ?_
  unfold Oper.wp
  simp [execOp, ho, hp, hx, hr, Result.andThen]
  exact hK _ _ h
theorem run_ldC {P : Program} {w : World} {ev : Operand → Value} {o : Oper} {t : TypeId} {x : Operand} {xv r : Value} (ho : o.op = .load t x) (hx : ev x = xv) (hr : (Instr.loadAt t xv).run P w = .ok r w) : (execOp ev o).run P w = .ok (.value r) w := by
  simp [execOp, ho, hx, hr, Result.andThen]
end Go.Proofs.Ytdfnfkknbjageaa

/- mounts.isGroup, moving, fits, exact, and the closures (gen_bb.py) -/
namespace Go.Proofs.Ytdfnfkknbjageaa
set_option maxRecDepth 20000
set_option linter.unusedVariables false
set_option linter.unusedSimpArgs false
open Go.RowKit Pm


set_option maxHeartbeats 400000 in
theorem isGroup_c (n : Int) (w : World) : Calls Try.prog 51 #[.int .i64 n] w fun e w' => e = .returned (.bool (okG n)) ∧ w' = w := by
  by_cases h0 : 0 ≤ n
  · have q1 : ((0 : Int) ≤ n) = True := eq_true h0
    by_cases h1 : n < 4
    · have q2 : (n < 4) = True := eq_true h1
      have e : okG n = true := decide_eq_true ⟨h0, h1⟩
      rw [e]
      clear h0 h1 e
      go_enter Try.func51, Try.ntmps51
      go_wp2
      go_ret
      exact ⟨rfl, rfl⟩
    · have q2 : (n < 4) = False := eq_false h1
      have e : okG n = false := decide_eq_false (fun h => h1 h.2)
      rw [e]
      clear h0 h1 e
      go_enter Try.func51, Try.ntmps51
      go_wp2
      go_ret
      exact ⟨rfl, rfl⟩
  · have q1 : ((0 : Int) ≤ n) = False := eq_false h0
    have e : okG n = false := decide_eq_false (fun h => h0 h.1)
    rw [e]
    clear h0 e
    go_enter Try.func51, Try.ntmps51
    go_wp2
    go_ret
    exact ⟨rfl, rfl⟩
set_option maxHeartbeats 400000 in
theorem moving_c (x : Mt) (w : World) : Calls Try.prog 59 #[mtV x] w fun e w' => e = .returned (.bool (mvM x)) ∧ Fp Non w w' := by
  obtain ⟨d, g, ep, t⟩ := x
  unfold mtV strV
  have hf : ∀ o, Fp Non w (w.alloc o) := fun o => (Fp.refl Non w).alloc o
  have HF := Lib.hid hf
  clear hf
  simp only
  by_cases h : t = g
  · have q1 : (t == g) = true := by rw [h]; exact beq_self_eq_true g
    have q2 : (t = g) = True := eq_true h
    have e : mvM ⟨d, g, ep, t⟩ = false := decide_eq_false (fun k => k h)
    rw [e]
    have q3 : (t != g) = false := by simp [bne, q1]
    clear h e
    go_enter Try.func59, Try.ntmps59
    go_wp2
    go_ret
    exact ⟨rfl, HF.out _⟩
  · have q1 : (t == g) = false := beq_eq_false_iff_ne.2 h
    have q2 : (t = g) = False := eq_false h
    have e : mvM ⟨d, g, ep, t⟩ = true := decide_eq_true h
    rw [e]
    have q3 : (t != g) = true := by simp [bne, q1]
    clear h e
    go_enter Try.func59, Try.ntmps59
    go_wp2
    go_ret
    exact ⟨rfl, HF.out _⟩
set_option maxHeartbeats 2000000 in
theorem fits_c (x : Mt) (w : World) (hp : x.d.length ≤ 140737488355328) : Calls Try.prog 34 #[mtV x] w fun e w' => e = .returned (.bool (okM x)) ∧ Fp Non w w' := by
  obtain ⟨p, g, ep, t⟩ := x
  have h3 := fun w => Right_g p w (sz_of hp (by omega))
  have e : okM ⟨p, g, ep, t⟩ = ((split p).isSome && okG g && okG t && okE ep) := rfl
  rw [e]
  have hF := BxM.new w ⟨p, g, ep, t⟩
  have HF := Lib.hid (And.intro (fp_alloc w (.cells #[.string (B p), .int .i64 g, .int .i64 ep, .int .i64 t] TM)) hF)
  unfold mtV strV
  generalize (split p).isSome = b3 at *
  have hg1 := fun w => isGroup_c g w
  have hg2 := fun w => isGroup_c t w
  generalize okG g = b1 at *
  generalize okG t = b2 at *
  have H3 := Lib.hid h3
  have HG1 := Lib.hid hg1
  have HG2 := Lib.hid hg2
  clear h3 hp e hF hg1 hg2
  simp only
  go_enter Try.func34, Try.ntmps34
  go_wp2_with fail
  refine (H3.out _).mono ?_
  rintro e w1 ⟨rfl, hg⟩
  have HG := Lib.hid (And.intro (HF.out.1.then hg.fp) (HF.out.2.non hg.fp))
  clear hg
  cases b3 with
  | false =>
    go_wp2
    go_ret
    exact ⟨rfl, HG.out.1⟩
  | true =>
    have hc := HG.out.2.at
    have c1 := hc.2.1; have c2 := hc.2.2.1; have c3 := hc.2.2.2
    clear hc
    simp only at c1 c2 c3
    go_wp2_with fail
    refine (HG1.out _).mono ?_
    rintro e w2 ⟨rfl, rfl⟩
    cases b1 with
    | false =>
      go_wp2
      go_ret
      exact ⟨rfl, HG.out.1⟩
    | true =>
      go_wp2_with fail
      refine (HG2.out _).mono ?_
      rintro e w2 ⟨rfl, rfl⟩
      cases b2 with
      | false =>
        go_wp2
        go_ret
        exact ⟨rfl, HG.out.1⟩
      | true =>
        go_wp2
        all_goals
          go_ret
          refine ⟨ret_bool ?_, HG.out.1⟩
          unfold okE mxN
          rw [Bool.eq_iff_iff]
          simp
          omega

/-! ### The closures -/
set_option maxHeartbeats 400000 in
theorem exact1_c (x : Mt) (g : Nat) (p : Bs) (w : World) (hg : w.cell? ⟨g, 0, none⟩ = some (.string (B p))) :
    Calls Try.prog 74 #[mtV x, .pointer (some ⟨g, 0, none⟩)] w fun e w' => e = .returned (.bool (decide (x.d = p))) ∧ Fp Non w w' := by
  obtain ⟨d, xg, ep, t⟩ := x
  unfold mtV strV
  have hk := fun o => (fp_alloc w o).cell hg (fun h => h)
  have HF := Lib.hid (fun o => fp_alloc w o)
  have HK := Lib.hid hk
  clear hk
  have hg' := HK.out (.cells #[.string (B d), .int .i64 xg, .int .i64 ep, .int .i64 t] TM)
  simp only
  by_cases h : d = p
  · have q1 : (d == p) = true := by rw [h]; exact beq_self_eq_true p
    have e : decide (d = p) = true := decide_eq_true h
    rw [e]
    clear h e hg
    go_enter Try.func74, Try.ntmps74
    go_wp2
    go_ret
    exact ⟨rfl, HF.out _⟩
  · have q1 : (d == p) = false := beq_eq_false_iff_ne.2 h
    have e : decide (d = p) = false := decide_eq_false h
    rw [e]
    clear h e hg
    go_enter Try.func74, Try.ntmps74
    go_wp2
    go_ret
    exact ⟨rfl, HF.out _⟩
/-- Is the mount's prefix no lesser one? -/
def geqB (a b : Bs) : Bool := !lt a b
set_option maxHeartbeats 400000 in
theorem with1_c (x : Mt) (g : Nat) (y : Mt) (w : World) (hg : w.cell? ⟨g, 0, none⟩ = some (.string (B y.d))) :
    Calls Try.prog 78 #[mtV x, .pointer (some ⟨g, 0, none⟩)] w fun e w' => e = .returned (.bool (geqB x.d y.d)) ∧ Fp Non w w' := by
  obtain ⟨d, xg, ep, t⟩ := x
  obtain ⟨p, yg, yep, yt⟩ := y
  unfold mtV strV
  simp only at hg ⊢
  have hk := fun o => (fp_alloc w o).cell hg (fun h => h)
  have HF := Lib.hid (fun o => fp_alloc w o)
  have HK := Lib.hid hk
  clear hk
  have hg' := HK.out (.cells #[.string (B d), .int .i64 xg, .int .i64 ep, .int .i64 t] TM)
  cases h : lt d p with
  | true =>
    have q1 : Op.bytesLess d p = true := h
    have q2 : Op.bytesLess p d = false := lt_asymm h
    have q3 : (d == p) = false := beq_eq_false_iff_ne.2 (lt_ne h)
    have q4 : (p == d) = false := beq_eq_false_iff_ne.2 (lt_ne h).symm
    have e : geqB d p = false := by unfold geqB; rw [h]; rfl
    rw [e]
    clear h e hg
    go_enter Try.func78, Try.ntmps78
    go_wp2
    go_ret
    exact ⟨rfl, HF.out _⟩
  | false =>
    have q1 : Op.bytesLess d p = false := h
    have e : geqB d p = true := by unfold geqB; rw [h]; rfl
    rw [e]
    by_cases hd : d = p
    · have q3 : (d == p) = true := by rw [hd]; exact beq_self_eq_true p
      have q4 : (p == d) = true := by rw [hd]; exact beq_self_eq_true p
      clear h e hg hd
      go_enter Try.func78, Try.ntmps78
      go_wp2
      go_ret
      exact ⟨rfl, HF.out _⟩
    · have q2 : Op.bytesLess p d = true := lt_of h hd
      clear h e hg hd
      go_enter Try.func78, Try.ntmps78
      go_wp2
      go_ret
      exact ⟨rfl, HF.out _⟩
/-- Does it move near p? -/
def nrM (p : Bs) (m : Mt) : Bool := mvM m && (inB m.d p || inB p m.d)
set_option maxHeartbeats 1000000 in
theorem refusal1_c (x : Mt) (g : Nat) (p : Bs) (w : World) (hx : x.d.length ≤ 140737488355328) (hp : p.length ≤ 140737488355328) (hg : w.cell? ⟨g, 0, none⟩ = some (.string (B p))) :
    Calls Try.prog 75 #[mtV x, .pointer (some ⟨g, 0, none⟩)] w fun e w' => e = .returned (.bool (nrM p x)) ∧ Fp Non w w' := by
  obtain ⟨d, xg, ep, t⟩ := x
  simp only at hx
  have h1 := fun w => moving_c ⟨d, xg, ep, t⟩ w
  have h2 := fun w => In_c d p w (by omega) (by omega)
  have h3 := fun w => In_c p d w (by omega) (by omega)
  have e : nrM p ⟨d, xg, ep, t⟩ = (mvM ⟨d, xg, ep, t⟩ && (inB d p || inB p d)) := rfl
  rw [e]
  have hb := BxM.new w ⟨d, xg, ep, t⟩
  have HB := Lib.hid (And.intro (fp_alloc w (.cells #[.string (B d), .int .i64 xg, .int .i64 ep, .int .i64 t] TM)) (And.intro hb ((fp_alloc w (.cells #[.string (B d), .int .i64 xg, .int .i64 ep, .int .i64 t] TM)).cell hg (fun h => h))))
  unfold mtV strV at h1 ⊢
  simp only at h1 ⊢
  generalize mvM ⟨d, xg, ep, t⟩ = b1 at *
  generalize inB d p = b2 at *
  generalize inB p d = b3 at *
  have H1 := Lib.hid h1
  have H2 := Lib.hid h2
  have H3 := Lib.hid h3
  have hc := HB.out.2.1.at
  have c0 := hc.1; have c1 := hc.2.1; have c2 := hc.2.2.1; have c3 := hc.2.2.2
  have cg := HB.out.2.2
  simp only at c0 c1 c2 c3
  clear h1 h2 h3 hx hp hg e hb hc
  go_enter Try.func75, Try.ntmps75
  go_wp2_with fail
  refine (H1.out _).mono ?_
  rintro e w1 ⟨rfl, hf⟩
  have HC := Lib.hid (And.intro (HB.out.1.then hf) (And.intro (HB.out.2.1.non hf) (hf.cell HB.out.2.2 (fun h => h))))
  clear hf c0 c1 c2 c3 cg
  cases b1 with
  | false =>
    go_wp2
    go_ret
    exact ⟨rfl, HC.out.1⟩
  | true =>
  have c0 := HC.out.2.1.at.1
  have cg := HC.out.2.2
  simp only at c0
  go_wp2_with fail
  refine (H2.out _).mono ?_
  rintro e w2 ⟨rfl, hf⟩
  have HD := Lib.hid (And.intro (HC.out.1.then (Fp.of_below hf)) (And.intro (HC.out.2.1.non (Fp.of_below hf)) ((Fp.of_below hf).cell HC.out.2.2 (fun h => h))))
  clear hf c0 cg
  cases b2 with
  | true =>
    go_wp2
    go_ret
    exact ⟨rfl, HD.out.1⟩
  | false =>
  have c0 := HD.out.2.1.at.1
  have cg := HD.out.2.2
  simp only at c0
  go_wp2_with fail
  refine (H3.out _).mono ?_
  rintro e w3 ⟨rfl, hf⟩
  have HE := Lib.hid (HD.out.1.then (Fp.of_below hf))
  clear hf c0 cg
  go_wp2
  go_ret
  exact ⟨ret_bool (by cases b3 <;> rfl), HE.out⟩

theorem exact_pd {w : World} {g : Nat} {p : Bs} (hg : w.cell? ⟨g, 0, none⟩ = some (.string (B p))) : PdM Non w (.func (.func 74) #[] #[.pointer (some ⟨g, 0, none⟩)]) (fun m => decide (m.d = p)) :=
  ⟨_, _, _, rfl, enters_of Try.func74 (by kernel_rfl) rfl, fun x w1 _ hf => exact1_c x g p w1 (hf.cell hg (fun h => h))⟩
theorem with_pd {w : World} {g : Nat} {y : Mt} (hg : w.cell? ⟨g, 0, none⟩ = some (.string (B y.d))) : PdM Non w (.func (.func 78) #[] #[.pointer (some ⟨g, 0, none⟩)]) (fun m => geqB m.d y.d) :=
  ⟨_, _, _, rfl, enters_of Try.func78 (by kernel_rfl) rfl, fun x w1 _ hf => with1_c x g y w1 (hf.cell hg (fun h => h))⟩
theorem refusal_pd {w : World} {g : Nat} {p : Bs} (hp : p.length ≤ 140737488355328) (hg : w.cell? ⟨g, 0, none⟩ = some (.string (B p))) : PdM Non w (.func (.func 75) #[] #[.pointer (some ⟨g, 0, none⟩)]) (nrM p) :=
  ⟨_, _, _, rfl, enters_of Try.func75 (by kernel_rfl) rfl, fun x w1 hx hf => refusal1_c x g p w1 hx hp (hf.cell hg (fun h => h))⟩

set_option maxHeartbeats 1000000 in
theorem exact_c (v : Value) (l : List Mt) (p : Bs) (w : World) (hv : NsM w v l) (hs : MSp l) (hn : l.length ≤ 140737488355328) :
    Calls Try.prog 58 #[v, .string (B p)] w fun e w' => e = .returned (.int .i64 (idx (exM l p))) ∧ Fp Non w w' := by
  have f1 := fp_alloc w (.cells #[.string (B p)] 9)
  have hbx := heap_alloc_new w (.cells #[.string (B p)] 9)
  have hpd := exact_pd (w := w.alloc (.cells #[.string (B p)] 9)) (g := w.heap.size) (p := p) (by rw [cell_of_row _ _ _ _ _ _ hbx]; rfl)
  have hi := IndexM_c v _ l _ _ (hv.non f1) hs hpd hn
  obtain ⟨ao, cap, rfl⟩ := hv.shape
  generalize l.length = n at *
  have HI := Lib.hid hi
  have HF := Lib.hid f1
  clear hi hpd hbx f1 hv hs hn
  go_enter Try.func58, Try.ntmps58
  go_wp2_with fail
  refine HI.out.mono ?_
  rintro e w1 ⟨⟨z, rfl, hz⟩, hf⟩
  have HZ := Lib.hid (And.intro (findM_eq hz) (HF.out.then hf))
  clear hz hf
  go_wp2
  go_ret
  exact ⟨ret_int HZ.out.1, HZ.out.2⟩

end Go.Proofs.Ytdfnfkknbjageaa

