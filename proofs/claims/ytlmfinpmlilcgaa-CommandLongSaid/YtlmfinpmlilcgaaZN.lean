/- Texts of this proof, merged. -/
import Derived.Test.YtlmfinpmlilcgaaZD
import Derived.Test.YtlmfinpmlilcgaaZH
import Derived.Test.YtlmfinpmlilcgaaZC
import Derived.Test.YtlmfinpmlilcgaaZE
import Derived.Test.YtlmfinpmlilcgaaZF
import Derived.Test.YtlmfinpmlilcgaaZM
import Derived.Test.YtlmfinpmlilcgaaZI
import Derived.ProofKit
import Derived.OpenShut
import Derived.Deep.Strs
import Derived.ChangeSlices
import Derived.Test.YtlmfinpmlilcgaaZJ
set_option linter.unusedVariables false
set_option linter.unusedSimpArgs false
/- The document's up, Home, node; GreatPart. -/

namespace Go.Proofs.Ytlmfinpmlilcgaa
set_option maxRecDepth 20000
set_option linter.unusedVariables false
set_option linter.unusedSimpArgs false
open Go.RowKit Pm

/-- A node as the document's Right reads it. -/
def nfit (n : Nd) : Bool := (split n.path).isSome && decide (n.data.length ≤ 256 ∧ 0 ≤ n.ver ∧ n.ver ≤ 281474976710656 ∧ 0 ≤ n.own ∧ n.own ≤ 1099511627776 ∧ n.turn = 0)
theorem nfit_of {n : Nd} (h : sfit n = true) : nfit n = true := by
  obtain ⟨h1, h2, h3, h4, h5, h6, h7, h8⟩ := (sfit_iff n).1 h
  unfold nfit; rw [h1]; simp only [Bool.true_and, decide_eq_true_eq]; exact ⟨h2, h5, h6, h7, h8, h3⟩

set_option maxHeartbeats 2000000 in
theorem GreatPart_c (x : Pt) (w : World) :
    Calls Try.prog 28 #[ptV x] w fun e w' => ∃ c, e = .returned (.bool c) ∧ (c = false → x.dir.length ≤ 3000 ∧ x.path.length ≤ 3000 ∧ x.data.length ≤ 3000) ∧ Fp Non w w' := by
  obtain ⟨kk, di, p, d, v, ow, t⟩ := x
  unfold ptV strV
  by_cases h0 : 3000 < di.length
  · have q1 : (3000 < di.length) = True := eq_true h0
    have q2 : ((3000 : Int) < (di.length : Int)) = True := eq_true (by omega)
    clear h0
    go_enter Try.func28, Try.ntmps28
    go_wp2
    go_ret
    exact ⟨_, rfl, fun h => by simp at h, (Fp.refl Non w).alloc _⟩
  have q1 : (3000 < di.length) = False := eq_false h0
  have q2 : ((3000 : Int) < (di.length : Int)) = False := eq_false (by omega)
  by_cases h1 : 3000 < p.length
  · have q3 : (3000 < p.length) = True := eq_true h1
    have q4 : ((3000 : Int) < (p.length : Int)) = True := eq_true (by omega)
    clear h0 h1
    go_enter Try.func28, Try.ntmps28
    go_wp2
    go_ret
    exact ⟨_, rfl, fun h => by simp at h, (Fp.refl Non w).alloc _⟩
  have q3 : (3000 < p.length) = False := eq_false h1
  have q4 : ((3000 : Int) < (p.length : Int)) = False := eq_false (by omega)
  by_cases h2 : 3000 < d.length
  · have q5 : (3000 < d.length) = True := eq_true h2
    have q6 : ((3000 : Int) < (d.length : Int)) = True := eq_true (by omega)
    clear h0 h1 h2
    go_enter Try.func28, Try.ntmps28
    go_wp2
    go_ret
    exact ⟨_, rfl, fun h => by simp at h, (Fp.refl Non w).alloc _⟩
  have q5 : (3000 < d.length) = False := eq_false h2
  have q6 : ((3000 : Int) < (d.length : Int)) = False := eq_false (by omega)
  have HL := Lib.hid (show di.length ≤ 3000 ∧ p.length ≤ 3000 ∧ d.length ≤ 3000 by omega)
  clear h0 h1 h2
  go_enter Try.func28, Try.ntmps28
  go_wp2
  go_ret
  exact ⟨_, rfl, fun _ => HL.out, (Fp.refl Non w).alloc _⟩
end Go.Proofs.Ytlmfinpmlilcgaa

/- Is a store too great? The document's Right. -/
namespace Go.Proofs.Ytlmfinpmlilcgaa
set_option maxRecDepth 20000
set_option linter.unusedVariables false
set_option linter.unusedSimpArgs false
open Go.RowKit Pm

/-- Ahead of round k of Great. -/
structure GtM (l : List Tu) (w : World) (k : Nat) (N : Int) (wr : World) : Prop where
  fp : Fp Non w wr
  lo : (l.length : Int) ≤ N
  eq : ∀ j (h : j < l.length), j < k → min (l[j].dir.length : Int) 3000 ≤ N
theorem min3 (a : Nat) : (0 : Int) ≤ min (a : Int) 3000 ∧ min (a : Int) 3000 ≤ 3000 := by omega
theorem GtM.next {l : List Tu} {w wr wr' : World} {k : Nat} {N : Int} (h : GtM l w k N wr) (f : Fp Non wr wr') (hk : k < l.length) :
    GtM l w (k + 1) (N + min (l[k].dir.length : Int) 3000) wr' := by
  have hN : 0 ≤ N := by have := h.lo; omega
  have m1 := min3 l[k].dir.length
  refine ⟨h.fp.then f, by have := h.lo; omega, fun j hj hjk => ?_⟩
  rcases Nat.lt_or_eq_of_le (show j ≤ k by omega) with e | e
  · have := h.eq j hj e
    omega
  · subst e
    omega
theorem GtM.few {l : List Tu} {w wr : World} {k : Nat} {N : Int} (h : GtM l w k N wr) (hk : k = l.length) (hN : N < 3000) : l.length ≤ 3000 ∧ ∀ x ∈ l, x.dir.length ≤ 3000 := by
  refine ⟨by have := h.lo; omega, fun x hx => ?_⟩
  obtain ⟨j, hj, rfl⟩ := List.getElem_of_mem hx
  have := h.eq j hj (by omega)
  omega
/-- A store that isn't too great. -/
structure Gfew (s : St) : Prop where
  turns : s.turns.length ≤ 3000 ∧ ∀ x ∈ s.turns, x.dir.length ≤ 3000
  nodes : s.nodes.length ≤ 1667 ∧ ∀ x ∈ s.nodes, x.path.length ≤ 5000 ∧ x.data.length ≤ 5000

set_option maxHeartbeats 6000000 in
theorem GreatS_c (v : Value) (s : St) (w : World) (hv : Sto w v s) (hn : s.nodes.length ≤ 140737488355328) (ht : s.turns.length ≤ 140737488355328) :
    Calls Try.prog 14 #[v] w fun e w' => ∃ g : Bool, e = .returned (.bool g) ∧ (g = false → Gfew s) ∧ Fp Non w w' := by
  obtain ⟨vn, vt, rfl, h1, h2⟩ := hv.ex
  obtain ⟨at_, ct, rfl⟩ := h2.shape
  obtain ⟨n, hnn⟩ : ∃ n, n = s.turns.length := ⟨_, rfl⟩
  have hbx := heap_alloc_new w (.cells #[vn, .slice at_ s.turns.length ct] 26)
  have hfa := fp_alloc w (.cells #[vn, .slice at_ s.turns.length ct] 26)
  have hgr := fun w' (f : Fp Non w w') => Great_c vn s.nodes w' (h1.non f) hn
  have h2' := h2
  rw [← hnn] at h2' hbx hfa
  have HX := Lib.hid (And.intro hnn (And.intro h2' (And.intro hgr (And.intro hbx hfa))))
  rw [← hnn]
  have hnb : n ≤ 140737488355328 := by omega
  clear h1 h2 h2' hn ht hnn hv hbx hfa hgr
  go_enter Try.func14, Try.ntmps14
  go_wp2_with fail
  go_loopw [3, 4] (fun m i wr => ∃ k : Nat, k ≤ n ∧ i = .int .i64 k ∧ ∃ N : Int, m = .int .i64 N ∧ (0 ≤ N ∧ N ≤ 140737488355328) ∧ Hid (GtM s.turns w k N wr ∧ wr.heap[w.heap.size]? = some (.cells #[vn, .slice at_ n ct] 26 (0, 0)))) (fun _ i _ => n - (RowKit.intOf i).toNat)
  case atStart => exact ⟨0, Nat.zero_le _, rfl, (n : Int), by go_num, by omega, ⟨HX.out.2.2.2.2, by rw [HX.out.1]; exact Int.le_refl _, fun j _ h => absurd h (Nat.not_lt_zero j)⟩, HX.out.2.2.2.1⟩
  case round =>
    obtain ⟨k, hk, rfl, N, rfl, hN, hR⟩ := hrel
    rename_i wr _
    have r0 : wr.cell? ⟨w.heap.size, 0, none⟩ = some vn := by rw [cell_of_row _ _ _ _ _ _ hR.out.2]; rfl
    have r1 : wr.cell? ⟨w.heap.size, 1, none⟩ = some (.slice at_ n ct) := by rw [cell_of_row _ _ _ _ _ _ hR.out.2]; rfl
    by_cases hlt : k < n
    · have hkl : k < s.turns.length := by rw [← HX.out.1]; exact hlt
      have q3 : ((k : Int) < (n : Int)) = True := eq_true (by omega)
      have q4 : (k < n) = True := eq_true hlt
      by_cases hN5 : N < 3000
      · have q5 : (N < 3000) = True := eq_true hN5
        obtain ⟨g, o, cap', e, _, _, _, hcell⟩ := (HX.out.2.1.non hR.out.1.fp).at (by omega)
        injection e with e1 e2 e3
        subst e1 e3
        have hnd := hcell k hkl
        clear hcell e2
        have hnx := fun wr' f => hR.out.1.next (wr' := wr') f hkl
        have HNX := Lib.hid hnx
        have HL := Lib.hid (And.intro hlt hN5)
        clear hnx hlt hN5
        generalize s.turns[k] = x at *
        clear hkl
        have c0 := hnd.c0
        unfold strV at c0
        have HB := Lib.hid (min3 x.dir.length)
        clear hnd
        go_wp2
        have hb := HB.out
        have hj := HL.out
        go_roundw
        case rel => exact ⟨k + 1, by omega, by go_num, _, rfl, ⟨by omega, by omega⟩, HNX.out _ (Fp.refl _ _), hR.out.2⟩
        case measure => simp [RowKit.intOf]; omega
      · have q5 : (N < 3000) = False := eq_false hN5
        have q6 : ((3000 : Int) ≤ N) = True := eq_true (by omega)
        clear hN5 hkl hlt
        go_wp2
        go_ret
        exact ⟨true, rfl, fun h => by simp at h, hR.out.1.fp⟩
    · have hke : k = n := by omega
      subst hke
      have q3 : ((k : Int) < (k : Int)) = False := eq_false (by omega)
      by_cases hN5 : N < 3000
      · have q6 : ((3000 : Int) ≤ N) = False := eq_false (by omega)
        have hfw := hR.out.1.few HX.out.1 hN5
        have HFW := Lib.hid hfw
        clear hfw hN5 hlt hk
        go_wp2_with fail
        refine (HX.out.2.2.1 _ hR.out.1.fp).mono ?_
        rintro e w1 ⟨g, rfl, hg, hf⟩
        have HG := Lib.hid (And.intro hg (hR.out.1.fp.then hf))
        clear hg hf r0 r1
        go_wp2
        go_ret
        exact ⟨g, rfl, fun h => ⟨HFW.out, HG.out.1 h⟩, HG.out.2⟩
      · have q6 : ((3000 : Int) ≤ N) = True := eq_true (by omega)
        clear hN5 hlt hk
        go_wp2
        go_ret
        exact ⟨true, rfl, fun h => by simp at h, hR.out.1.fp⟩
end Go.Proofs.Ytlmfinpmlilcgaa

/- Is a command too much? (gen_gs.py) -/
namespace Go.Proofs.Ytlmfinpmlilcgaa
set_option maxRecDepth 20000
set_option linter.unusedVariables false
set_option linter.unusedSimpArgs false
open Go.RowKit Pm

set_option maxHeartbeats 4000000 in
theorem GreatPs_c (v : Value) (p : List Pe) (w : World) (hv : Sg peC 8 w v p) (hlen : p.length ≤ 140737488355328) :
    Calls Try.prog 13 #[v] w fun e w' => ∃ g : Bool, e = .returned (.bool g) ∧ (g = false → p.length ≤ 60 ∧ ∀ x ∈ p, x.p.dir.length ≤ 3000 ∧ x.p.path.length ≤ 3000 ∧ x.p.data.length ≤ 3000) ∧ Fp Non w w' := by
  obtain ⟨ao, cap, rfl⟩ := hv.shape
  obtain ⟨n, hnn⟩ : ∃ n, n = p.length := ⟨_, rfl⟩
  have HX := Lib.hid (And.intro hnn hv)
  rw [← hnn] at hlen ⊢
  clear hv hnn
  go_enter Try.func13, Try.ntmps13
  by_cases h60 : n ≤ 60
  · have t1 : ((60 : Int) < (n : Int)) = False := eq_false (by omega)
    have t2 : (60 < n) = False := eq_false (by omega)
    clear hlen
    go_wp2_with fail
    go_loopw [3] (fun i wr => ∃ k : Nat, k ≤ n ∧ i = .int .i64 k ∧ Hid (Fp Non w wr ∧ ∀ j (h : j < p.length), j < k → p[j].p.dir.length ≤ 3000 ∧ p[j].p.path.length ≤ 3000 ∧ p[j].p.data.length ≤ 3000)) (fun i _ => n - (RowKit.intOf i).toNat)
    case atStart => exact ⟨0, Nat.zero_le _, rfl, Fp.refl _ _, fun j _ h => absurd h (Nat.not_lt_zero j)⟩
    case round =>
      obtain ⟨k, hk, rfl, hR⟩ := hrel
      rename_i wr _
      by_cases hlt : k < n
      · have hkl : k < p.length := by rw [← HX.out.1]; exact hlt
        obtain ⟨g, o, cap', e, hcell⟩ := HX.out.2.at (by omega)
        injection e with e1 e2 e3
        subst e1 e3
        obtain ⟨c0, c1, c2, c3, c4, c5, c6, c7⟩ := pe_cells ((hcell k hkl).keep hR.out.1 (fun h => h))
        have hstep : (p[k].p.dir.length ≤ 3000 ∧ p[k].p.path.length ≤ 3000 ∧ p[k].p.data.length ≤ 3000) → ∀ j (h : j < p.length), j < k + 1 → p[j].p.dir.length ≤ 3000 ∧ p[j].p.path.length ≤ 3000 ∧ p[j].p.data.length ≤ 3000 := fun h j hj hjk => by
          rcases Nat.lt_or_eq_of_le (show j ≤ k by omega) with e | e
          · exact hR.out.2 j hj e
          · subst e; exact h
        generalize p[k] = x at *
        obtain ⟨x0, x⟩ := x
        have hc := fun w => GreatPart_c x w
        unfold ptV strV at hc
        obtain ⟨x1, x2, x3, x4, x5, x6, x7⟩ := x
        simp only at hc hstep c0 c1 c2 c3 c4 c5 c6 c7
        have q3 : ((k : Int) < (n : Int)) = True := eq_true (by omega)
        have q4 : (k < n) = True := eq_true hlt
        have HL := Lib.hid (And.intro hlt (And.intro h60 hstep))
        have HC := Lib.hid hc
        clear hc hlt hkl hcell hstep
        go_wp2_with fail
        refine (HC.out _).mono ?_
        rintro e w1 ⟨b, rfl, hb, hf⟩
        have HF := Lib.hid (And.intro (hR.out.1.then hf) hb)
        clear hf hb
        cases b with
        | true =>
          go_wp2
          go_ret
          exact ⟨true, rfl, fun h => Bool.noConfusion h, HF.out.1⟩
        | false =>
          have hkn := HL.out.1
          go_wp2
          go_roundw
          case rel => exact ⟨k + 1, by omega, by go_num, HF.out.1, HL.out.2.2 (HF.out.2 (by trivial))⟩
          case measure => simp [RowKit.intOf]; omega
      · have hke : k = n := by omega
        subst hke
        have q3 : ((k : Int) < (k : Int)) = False := eq_false (by omega)
        have H6 := Lib.hid h60
        clear hlt hk h60
        go_wp2
        go_ret
        exact ⟨false, rfl, fun _ => ⟨H6.out, fun x hx => by
          obtain ⟨j, hj, rfl⟩ := List.getElem_of_mem hx
          exact hR.out.2 j hj (by rw [HX.out.1]; exact hj)⟩, hR.out.1⟩
  · have t1 : ((60 : Int) < (n : Int)) = True := eq_true (by omega)
    have t2 : (60 < n) = True := eq_true (by omega)
    clear hlen h60
    go_wp2
    go_ret
    exact ⟨true, rfl, fun h => Bool.noConfusion h, Fp.refl _ _⟩

/-- Ahead of round k. -/
structure GgM (l : List Bs) (w : World) (k : Nat) (N : Int) (wr : World) : Prop where
  fp : Fp Non w wr
  lo : (l.length : Int) ≤ N
  eq : ∀ j (h : j < l.length), j < k → min (l[j].length : Int) 3000 ≤ N
theorem mn3 (a : Nat) : (0 : Int) ≤ min (a : Int) 3000 ∧ min (a : Int) 3000 ≤ 3000 := by omega
theorem GgM.next {l : List Bs} {w wr wr' : World} {k : Nat} {N : Int} (h : GgM l w k N wr) (f : Fp Non wr wr') (hk : k < l.length) : GgM l w (k + 1) (N + min (l[k].length : Int) 3000) wr' := by
  have hN : 0 ≤ N := by have := h.lo; omega
  have m1 := mn3 l[k].length
  refine ⟨h.fp.then f, by have := h.lo; omega, fun j hj hjk => ?_⟩
  rcases Nat.lt_or_eq_of_le (show j ≤ k by omega) with e | e
  · have := h.eq j hj e; omega
  · subst e; omega
theorem GgM.few {l : List Bs} {w wr : World} {k : Nat} {N : Int} (h : GgM l w k N wr) (hk : k = l.length) (hN : N < 3000) : l.length ≤ 3000 ∧ ∀ x ∈ l, x.length ≤ 3000 := by
  refine ⟨by have := h.lo; omega, fun x hx => ?_⟩
  obtain ⟨j, hj, rfl⟩ := List.getElem_of_mem hx
  have := h.eq j hj (by omega)
  omega

/-- Lengths that the arguments' reading bounds. -/
structure Ln (c : Cd) : Prop where
  ps : c.ps.length ≤ 140737488355328
  nodes : c.st.nodes.length ≤ 140737488355328
  turns : c.st.turns.length ≤ 140737488355328
  gone : c.gone.length ≤ 140737488355328

set_option maxHeartbeats 16000000 in
theorem cGreat_c (v : Value) (c : Cd) (w : World) (hv : CdW w v c) (hln : Ln c) :
    Calls Try.prog 8 #[v] w fun e w' => ∃ g : Bool, e = .returned (.bool g) ∧ (g = false → Fw c) ∧ Fp Non w w' := by
  obtain ⟨vp, vn, vt, vg, rfl, f1, f2, f3, f4⟩ := hv.ex
  have hgp := fun W (f : Fp Non w W) => GreatPs_c vp c.ps W (f1.non f) hln.ps
  have hgs := fun W (f : Fp Non w W) => GreatS_c (.agg #[vn, vt]) c.st W ⟨_, _, rfl, f2.non f, f3.non f⟩ hln.nodes hln.turns
  obtain ⟨ap, cp, rfl⟩ := f1.shape
  obtain ⟨an, cn, rfl⟩ := f2.shape
  obtain ⟨at', ct, rfl⟩ := f3.shape
  obtain ⟨ag, cg, rfl⟩ := f4.shape
  have hnb := hln.gone
  obtain ⟨k, i, t, a, y, ps, pre, ep, to, ⟨ns, ts⟩, gn, ws, wn, wp, dp⟩ := c
  simp only [cdL] at hgp hgs f4 hnb ⊢
  obtain ⟨n, hnn⟩ : ∃ n, n = gn.length := ⟨_, rfl⟩
  have hbx := heap_alloc_new w (.cells #[.int .i64 k, .int .i64 i, .int .i64 t, .int .i64 a, .bool y, .slice ap ps.length cp, .string (B pre), .int .i64 ep, .int .i64 to, .slice an ns.length cn, .slice at' ts.length ct, .slice ag gn.length cg, .int .i64 ws, .int .i64 wn, .string (B wp), .bool dp] TCD)
  have hfa := fp_alloc w (.cells #[.int .i64 k, .int .i64 i, .int .i64 t, .int .i64 a, .bool y, .slice ap ps.length cp, .string (B pre), .int .i64 ep, .int .i64 to, .slice an ns.length cn, .slice at' ts.length ct, .slice ag gn.length cg, .int .i64 ws, .int .i64 wn, .string (B wp), .bool dp] TCD)
  rw [← hnn] at hbx hfa hnb f4
  have HX := Lib.hid (And.intro hnn (And.intro f4 (And.intro hgp (And.intro hgs (And.intro hbx hfa)))))
  rw [← hnn]
  clear f1 f2 f3 f4 hv hln hnn hbx hfa hgp hgs
  go_enter Try.func8, Try.ntmps8
  go_wp2_with fail
  go_loopw [3, 4] (fun m i_ wr => ∃ j : Nat, j ≤ n ∧ i_ = .int .i64 j ∧ ∃ N : Int, m = .int .i64 N ∧ (0 ≤ N ∧ N ≤ 140737488355328) ∧ Hid (GgM gn w j N wr ∧ wr.heap[w.heap.size]? = some (.cells #[.int .i64 k, .int .i64 i, .int .i64 t, .int .i64 a, .bool y, .slice ap ps.length cp, .string (B pre), .int .i64 ep, .int .i64 to, .slice an ns.length cn, .slice at' ts.length ct, .slice ag n cg, .int .i64 ws, .int .i64 wn, .string (B wp), .bool dp] TCD (0, 0)))) (fun _ i_ _ => n - (RowKit.intOf i_).toNat)
  case atStart => exact ⟨0, Nat.zero_le _, rfl, (n : Int), by go_num, by omega, ⟨HX.out.2.2.2.2.2, by rw [HX.out.1]; exact Int.le_refl _, fun j _ h => absurd h (Nat.not_lt_zero j)⟩, HX.out.2.2.2.2.1⟩
  case round =>
    obtain ⟨j, hk, rfl, N, rfl, hN, hR⟩ := hrel
    rename_i wr _
    have r5 : wr.cell? ⟨w.heap.size, 5, none⟩ = some (.slice ap ps.length cp) := by rw [cell_of_row _ _ _ _ _ _ hR.out.2]; rfl
    have r6 : wr.cell? ⟨w.heap.size, 6, none⟩ = some (.string (B pre)) := by rw [cell_of_row _ _ _ _ _ _ hR.out.2]; rfl
    have r11 : wr.cell? ⟨w.heap.size, 11, none⟩ = some (.slice ag n cg) := by rw [cell_of_row _ _ _ _ _ _ hR.out.2]; rfl
    have r14 : wr.cell? ⟨w.heap.size, 14, none⟩ = some (.string (B wp)) := by rw [cell_of_row _ _ _ _ _ _ hR.out.2]; rfl
    by_cases hlt : j < n
    · have hkl : j < gn.length := by rw [← HX.out.1]; exact hlt
      have q3 : ((j : Int) < (n : Int)) = True := eq_true (by omega)
      have q4 : (j < n) = True := eq_true hlt
      by_cases hN5 : N < 3000
      · have q5 : (N < 3000) = True := eq_true hN5
        have hf4 := HX.out.2.1.non hR.out.1.fp
        obtain ⟨g, o, cap', e, hcell⟩ := hf4.at (by rw [← HX.out.1]; omega)
        injection e with e1 e2 e3
        subst e1 e3
        have c0 := hcell j hkl
        clear hcell e2 hf4
        have hnx := fun wr' f => hR.out.1.next (wr' := wr') f hkl
        have HNX := Lib.hid hnx
        have HL := Lib.hid (And.intro hlt hN5)
        clear hnx hlt hN5
        generalize gn[j] = x at *
        clear hkl
        have HB := Lib.hid (mn3 x.length)
        go_wp2
        have hb := HB.out
        have hj := HL.out
        go_roundw
        case rel => exact ⟨j + 1, by omega, by go_num, _, rfl, ⟨by omega, by omega⟩, HNX.out _ (Fp.refl _ _), hR.out.2⟩
        case measure => simp [RowKit.intOf]; omega
      · have q5 : (N < 3000) = False := eq_false hN5
        have q6 : ((3000 : Int) ≤ N) = True := eq_true (by omega)
        clear hN5 hkl hlt
        go_wp2
        go_ret
        exact ⟨true, rfl, fun h => by simp at h, hR.out.1.fp⟩
    · have hke : j = n := by omega
      subst hke
      have q3 : ((j : Int) < (j : Int)) = False := eq_false (by omega)
      by_cases hN5 : N < 3000
      · have q6 : ((3000 : Int) ≤ N) = False := eq_false (by omega)
        have hfw := hR.out.1.few HX.out.1 hN5
        have HFW := Lib.hid hfw
        clear hfw hN5 hlt hk hN
        by_cases hp : 3000 < pre.length
        · have p1 : ((3000 : Int) < (pre.length : Int)) = True := eq_true (by omega)
          have p2 : (3000 < pre.length) = True := eq_true hp
          clear hp
          go_wp2
          go_ret
          exact ⟨true, rfl, fun h => by simp at h, hR.out.1.fp⟩
        have p1 : ((3000 : Int) < (pre.length : Int)) = False := eq_false (by omega)
        have p2 : (3000 < pre.length) = False := eq_false hp
        by_cases hw : 3000 < wp.length
        · have p3 : ((3000 : Int) < (wp.length : Int)) = True := eq_true (by omega)
          have p4 : (3000 < wp.length) = True := eq_true hw
          clear hp hw
          go_wp2
          go_ret
          exact ⟨true, rfl, fun h => by simp at h, hR.out.1.fp⟩
        have p3 : ((3000 : Int) < (wp.length : Int)) = False := eq_false (by omega)
        have p4 : (3000 < wp.length) = False := eq_false hw
        have HP := Lib.hid (And.intro hp hw)
        clear hp hw
        go_wp2_with fail
        refine (HX.out.2.2.1 _ hR.out.1.fp).mono ?_
        rintro e w1 ⟨g1, rfl, hg1, hf1⟩
        have hb1 := hf1.heap hR.out.2 (fun h => h)
        have HG1 := Lib.hid (And.intro hg1 (hR.out.1.fp.then hf1))
        have s9 : w1.cell? ⟨w.heap.size, 9, none⟩ = some (.slice an ns.length cn) := by rw [cell_of_row _ _ _ _ _ _ hb1]; rfl
        have s10 : w1.cell? ⟨w.heap.size, 10, none⟩ = some (.slice at' ts.length ct) := by rw [cell_of_row _ _ _ _ _ _ hb1]; rfl
        clear hg1 hf1 hb1 r5 r6 r11 r14
        cases g1 with
        | true =>
          go_wp2
          go_ret
          exact ⟨true, rfl, fun h => by simp at h, HG1.out.2⟩
        | false =>
          go_wp2_with fail
          refine (HX.out.2.2.2.1 _ HG1.out.2).mono ?_
          rintro e w2 ⟨g2, rfl, hg2, hf2⟩
          have HG2 := Lib.hid (And.intro hg2 (HG1.out.2.then hf2))
          clear hg2 hf2 s9 s10
          go_wp2
          go_ret
          exact ⟨g2, rfl, fun h => by
            have k1 := HG1.out.1 (by trivial)
            have k2 := HG2.out.1 h
            have k3 := HFW.out
            have k4 := HP.out
            exact ⟨by show pre.length ≤ 1000000; omega, by show wp.length ≤ 1000000; omega, by have := k1.1; show ps.length ≤ 1000000; omega, fun x hx => by have := k1.2 x hx; omega, by have := k2.nodes.1; show ns.length ≤ 1000000; simp only at this; omega, fun x hx => by have := k2.nodes.2 x hx; omega, by have := k2.turns.1; show ts.length ≤ 1000000; simp only at this; omega, fun x hx => by have := k2.turns.2 x hx; omega, by have := k3.1; show gn.length ≤ 1000000; omega, fun x hx => by have := k3.2 x hx; omega⟩, HG2.out.2⟩
      · have q6 : ((3000 : Int) ≤ N) = True := eq_true (by omega)
        clear hN5 hlt hk
        go_wp2
        go_ret
        exact ⟨true, rfl, fun h => by simp at h, hR.out.1.fp⟩
end Go.Proofs.Ytlmfinpmlilcgaa

/- The arguments of the laws: commands, pieces, bytes. (gen_gv.py) -/
namespace Go.Proofs.Ytlmfinpmlilcgaa
set_option maxRecDepth 20000
set_option linter.unusedVariables false
set_option linter.unusedSimpArgs false
open Go.ChangeShapes Go.WideShapes Go.ChangeAt Go.RowKit Pm Go.Deep
open Go.WideMaps Go.WideElems
open Go.ChangeMaps (setBlock shut_map_nil open_string shut_string)

theorem Try.cellsPc : Try.prog.cellsOf 48 = 8 := by kernel_rfl
theorem Try.bytesPc : Try.prog.bytesOf 48 = 88 := by kernel_rfl
theorem Try.bytesSt : Try.prog.bytesOf 9 = 16 := by kernel_rfl
theorem Try.cellsCd : Try.prog.cellsOf 31 = 16 := by kernel_rfl
theorem Try.cellsWt : Try.prog.cellsOf 29 = 4 := by kernel_rfl
theorem Try.cellsPs : Try.prog.cellsOf 22 = 1 := by kernel_rfl
theorem Try.cellsGs : Try.prog.cellsOf 27 = 1 := by kernel_rfl
section
variable {H : Type} {enc : TypeId × Value → H} {W : World}

/-- []byte, opened. -/
theorem open_bytes {v : Value} {d : DataW H} {p : List MemPlace} {base : Nat} (hv : Value.okWide Try.prog W .any base 32 v) (h : DataW.Trod enc Try.prog W 0 (fun _ => true) true 32 v d p) :
    ∃ l, Sl W v l := by
  obtain ⟨a0, len, cap, rfl⟩ := okWide_slice Try.underlying32 hv
  obtain ⟨fuel, hf⟩ := h
  have hf : DataW.trod enc Try.prog W 0 (fun _ => true) true fuel 32 [.slice a0 len cap] = some (d, p) := by simpa [Value.cells] using hf
  rcases open_ints Try.underlying32 Try.underlying5 Try.cellsBy hf with ⟨hcs, hx⟩ | ⟨a, len', cap', zs, hcs, _, hl, hm, hz, hx, hcell, hwz⟩
  · simp only [List.cons.injEq, Value.slice.injEq, and_true] at hcs
    obtain ⟨rfl, rfl, rfl⟩ := hcs
    exact ⟨[], Sl.nil W⟩
  · simp only [List.cons.injEq, Value.slice.injEq, and_true] at hcs
    obtain ⟨rfl, rfl, rfl⟩ := hcs
    simp only [if_true] at hz
    have hw : a.spot = none ∧ a.block < W.heap.size := by
      simp only [Value.okWide, Cell.okWide, Cell.ok, Try.underlying32] at hv
      obtain ⟨_, _, _, hs, row, cells, hsh, _⟩ := hv
      refine ⟨hs, ?_⟩
      unfold World.shape? at hsh
      rcases Nat.lt_or_ge a.block W.heap.size with h | h
      · exact h
      · rw [Array.getElem?_eq_none h] at hsh; simp at hsh
    obtain ⟨g, o, sp⟩ := a
    simp only at hw
    obtain ⟨rfl, hg⟩ := hw
    have hbd : ∀ j (h : j < zs.length), 0 ≤ zs[j] ∧ zs[j] ≤ 255 := fun j h => bounds_u8 (hwz _ (List.getElem_mem h))
    refine ⟨(zs.take len).map fun x => UInt8.ofNat x.toNat, some ⟨g, o, none⟩, cap, by simp; omega, by simp; omega, hm, .inr ⟨g, o, rfl, hg, fun j hj => ?_⟩⟩
    have hj' : j < zs.length := by simp at hj; omega
    have hc := hcell j hj'
    rw [Addr.add_lit] at hc
    rw [hc]
    have := hbd j hj'
    simp [List.getD, List.getElem?_eq_getElem hj']
    omega

theorem pt_of {n : Nat} {cs : List Value} {y : DataW H × List MemPlace} (hlen : cs.length = 7) (h : DataW.trod enc Try.prog W 0 (fun _ => true) true n 46 cs = some y) : ∃ x : Pt, cs = ptC x := by
  obtain ⟨xs, k, hk, hxy, _, hxl, hf⟩ := DataW.trod_struct Try.underlying46 h
  match xs, hxl, cs, hlen with
  | [y0, y1, y2, y3, y4, y5, y6], _, [v0, v1, v2, v3, v4, v5, v6], _ =>
    have g0 := hf 0 _ rfl
    have g1 := hf 1 _ rfl
    have g2 := hf 2 _ rfl
    have g3 := hf 3 _ rfl
    have g4 := hf 4 _ rfl
    have g5 := hf 5 _ rfl
    have g6 := hf 6 _ rfl
    simp [Try.cellsInt] at g0
    simp [Try.cellsStr'] at g1
    simp [Try.cellsStr'] at g2
    simp [Try.cellsStr'] at g3
    simp [Try.cellsI64] at g4
    simp [Try.cellsI64] at g5
    simp [Try.cellsBoo] at g6
    obtain ⟨z0, e0, _, _⟩ := DataW.trod_int Try.underlying3 g0
    obtain ⟨z1, e1, _, h1⟩ := DataW.trod_string Try.underlying9 g1
    obtain ⟨z2, e2, _, h2⟩ := DataW.trod_string Try.underlying9 g2
    obtain ⟨z3, e3, _, h3⟩ := DataW.trod_string Try.underlying9 g3
    obtain ⟨z4, e4, _, _⟩ := DataW.trod_int Try.underlying2 g4
    obtain ⟨z5, e5, _, _⟩ := DataW.trod_int Try.underlying2 g5
    obtain ⟨z6, e6, _⟩ := DataW.trod_bool Try.underlying4 g6
    simp only [List.cons.injEq, and_true] at e0 e1 e2 e3 e4 e5 e6
    subst e0 e1 e2 e3 e4 e5 e6
    refine ⟨⟨z0, z1.data.toList, z2.data.toList, z3.data.toList, z4, z5, z6⟩, ?_⟩
    unfold ptC strV; rw [← B_of, ← B_of, ← B_of]
theorem pc_of {n : Nat} {cs : List Value} {y : DataW H × List MemPlace} (hlen : cs.length = 8) (h : DataW.trod enc Try.prog W 0 (fun _ => true) true n 48 cs = some y) : ∃ x : Pe, cs = peC x := by
  obtain ⟨xs, k, hk, hxy, _, hxl, hf⟩ := DataW.trod_struct Try.underlying48 h
  match xs, hxl, cs, hlen with
  | [y0, y1], _, [v0, v1, v2, v3, v4, v5, v6, v7], _ =>
    have g0 := hf 0 _ rfl
    have g1 := hf 1 _ rfl
    simp [Try.cellsInt] at g0
    simp [Try.cellsInt, Try.cellsPt] at g1
    obtain ⟨z0, e0, _, _⟩ := DataW.trod_int Try.underlying3 g0
    obtain ⟨z1, e1⟩ := pt_of rfl g1
    simp only [List.cons.injEq, and_true] at e0
    subst e0
    exact ⟨⟨z0, z1⟩, by unfold peC; rw [e1]⟩

/-- A piece, opened. -/
theorem open_piece {v : Value} {d : DataW H} {p : List MemPlace} {base : Nat} (hv : Value.okWide Try.prog W .any base 48 v) (h : DataW.Trod enc Try.prog W 0 (fun _ => true) true 48 v d p) :
    ∃ x : Pe, v = .agg (peC x).toArray ∧ True := by
  obtain ⟨cs, rfl, hcs⟩ := okWide_struct Try.underlying48 hv
  rw [Try.cellsPc] at hcs
  obtain ⟨fuel, hf⟩ := h
  have hf : DataW.trod enc Try.prog W 0 (fun _ => true) true fuel 48 cs.toList = some (d, p) := by simpa [Value.cells] using hf
  obtain ⟨x, hx⟩ := pc_of (by simpa using hcs) hf
  exact ⟨x, by rw [← hx], trivial⟩

/-- []Piece within, opened. -/
theorem open_pieces_in {fuel : Nat} {v : Value} {y : DataW H × List MemPlace} (hf : DataW.trod enc Try.prog W 0 (fun _ => true) true fuel 22 [v] = some y) (hsz : ∀ n ∈ y.1.weights Try.prog 22, n ≤ reachBytes) :
    ∃ l, Sg peC 8 W v l ∧ l.length ≤ 140737488355328 := by
  rcases open_slice Try.underlying22 hf with ⟨hcs, hx⟩ | ⟨a, len, cap, m, n, D, Pl, hcs, _, hl, hm, hmm, hx, hel⟩
  · simp only [List.cons.injEq, and_true] at hcs
    subst hcs
    exact ⟨[], Sg.nil W, Nat.zero_le _⟩
  · simp only [List.cons.injEq, and_true] at hcs
    subst hcs
    simp only [if_true] at hmm
    subst hmm
    have hlb : len ≤ 140737488355328 := by
      rw [hx] at hsz
      simp only [DataW.weights, Try.underlying22] at hsz
      have := hsz _ (List.mem_cons_self ..)
      rw [Try.bytesPc] at this
      simp only [List.length_map, List.length_range, reachBytes] at this
      omega
    have each : ∀ i, i < len → ∃ x : Pe, (∀ j (hj : j < 8), W.cell? (a.add (i * 8 + j)) = (peC x)[j]?) := by
      intro i hi
      obtain ⟨cs', h1, h2⟩ := hel i (by omega)
      rw [Try.cellsPc] at h1
      obtain ⟨_, hlen, hcell⟩ := World.cells?_some h1
      obtain ⟨x, rfl⟩ := pc_of hlen h2
      refine ⟨x, fun j hj => ?_⟩
      have := hcell j (by omega)
      rw [add_add] at this
      exact this
    obtain ⟨f, hfi⟩ : ∃ f : Nat → Pe, ∀ i, i < len → (∀ j (hj : j < 8), W.cell? (a.add (i * 8 + j)) = (peC (f i))[j]?) := by
      haveI : Inhabited Pe := ⟨⟨0, ⟨0, [], [], [], 0, 0, false⟩⟩⟩
      exact choose_lt each
    have hlen : ((List.range len).map f).length = len := by simp
    by_cases h0 : len = 0
    · subst h0
      exact ⟨[], ⟨some a, m, rfl, .inl rfl⟩, Nat.zero_le _⟩
    · have hc0 := hfi 0 (by omega) 0 (by omega)
      have hc0 : W.cell? a = some (.int .i64 (f 0).op) := by simpa [Addr.add, peC] using hc0
      obtain ⟨g, o, rfl⟩ := spot_none hc0
      refine ⟨(List.range len).map f, ⟨some ⟨g, o, none⟩, m, by rw [hlen], .inr ⟨g, o, rfl, fun i hi => ⟨fun j u hu => ?_⟩⟩⟩, by rw [hlen]; exact hlb⟩
      rw [hlen] at hi
      simp only [List.getElem_map, List.getElem_range] at hu
      have hj : j < 8 := by rw [← peC_len (f i)]; exact (List.getElem?_eq_some_iff.1 hu).1
      have := hfi i hi j hj
      rw [Addr.add_lit, ← Nat.add_assoc] at this
      rw [this]; exact hu

/-- []string within, opened. -/
theorem open_strings_in {fuel : Nat} {v : Value} {y : DataW H × List MemPlace} (hf : DataW.trod enc Try.prog W 0 (fun _ => true) true fuel 27 [v] = some y) (hsz : ∀ n ∈ y.1.weights Try.prog 27, n ≤ reachBytes) :
    ∃ l, Tx W v l ∧ l.length ≤ 140737488355328 := by
  rcases open_strs Try.underlying27 Try.underlying9 Try.cellsStr' hf with ⟨hcs, hx⟩ | ⟨a, len, cap, m, Sx, hcs, _, hl, hm, hmm, hx, hcell⟩
  · simp only [List.cons.injEq, and_true] at hcs
    subst hcs
    exact ⟨[], ⟨none, 0, rfl, .inl rfl⟩, Nat.zero_le _⟩
  · simp only [List.cons.injEq, and_true] at hcs
    subst hcs
    simp only [if_true] at hmm
    subst hmm
    have hlb : len ≤ 140737488355328 := by
      rw [hx] at hsz
      simp only [DataW.weights, Try.underlying27] at hsz
      have := hsz _ (List.mem_cons_self ..)
      rw [Try.bytesSt] at this
      simp only [List.length_map, List.length_range, reachBytes] at this
      omega
    have hlen : ((List.range len).map fun i => (Sx i).data.toList).length = len := by simp
    by_cases h0 : len = 0
    · subst h0
      exact ⟨[], ⟨some a, m, rfl, .inl rfl⟩, Nat.zero_le _⟩
    · have hc0 := (hcell 0 (by omega)).1
      have hc0 : W.cell? a = some (.string (Sx 0)) := by simpa [Addr.add] using hc0
      obtain ⟨g, o, rfl⟩ := spot_none hc0
      refine ⟨(List.range len).map fun i => (Sx i).data.toList, ⟨some ⟨g, o, none⟩, m, by rw [hlen], .inr ⟨g, o, rfl, fun j hj => ?_⟩⟩, by rw [hlen]; exact hlb⟩
      rw [hlen] at hj
      have := (hcell j (by omega)).1
      rw [Addr.add_lit] at this
      rw [this]
      simp only [List.getElem_map, List.getElem_range]
      rw [← B_of]

/-- A store within, opened. -/
theorem open_store_in {fuel : Nat} {v0 v1 : Value} {y : DataW H × List MemPlace} (hf : DataW.trod enc Try.prog W 0 (fun _ => true) true fuel 26 [v0, v1] = some y) (hsz : ∀ n ∈ y.1.weights Try.prog 26, n ≤ reachBytes) :
    ∃ s : St, Ns W v0 s.nodes ∧ Ts W v1 s.turns ∧ s.nodes.length ≤ 140737488355328 ∧ s.turns.length ≤ 140737488355328 := by
  obtain ⟨xs, k, hk, hxy, _, hxl, hf⟩ := DataW.trod_struct Try.underlying26 hf
  match xs, hxl with
  | [y0, y1], _ =>
    have g0 := hf 0 _ rfl
    have g1 := hf 1 _ rfl
    simp [Try.cellsNs] at g0
    simp [Try.cellsNs, Try.cellsTs] at g1
    have hd := congrArg Prod.fst hxy
    simp only at hd
    obtain ⟨l0, h0, n0, _⟩ := open_nodes_in g0 (fun n hn => hsz n (by rw [hd]; simp only [DataW.weights, Try.underlying26, List.map_cons, List.map_nil, DataW.weightsEach, List.mem_append]; simp [hn]))
    obtain ⟨l1, h1, n1, _⟩ := open_turns_in g1 (fun n hn => hsz n (by rw [hd]; simp only [DataW.weights, Try.underlying26, List.map_cons, List.map_nil, DataW.weightsEach, List.mem_append]; simp [hn]))
    exact ⟨⟨l0, l1⟩, h0, h1, n0, n1⟩

/-- A watch within, opened. -/
theorem open_watch_in {fuel : Nat} {v0 v1 v2 v3 : Value} {y : DataW H × List MemPlace} (hf : DataW.trod enc Try.prog W 0 (fun _ => true) true fuel 29 [v0, v1, v2, v3] = some y) :
    ∃ (a b : Int) (p : Bs) (x : Bool), v0 = .int .i64 a ∧ v1 = .int .i64 b ∧ v2 = .string (B p) ∧ v3 = .bool x := by
  obtain ⟨xs, k, hk, hxy, _, hxl, hf⟩ := DataW.trod_struct Try.underlying29 hf
  match xs, hxl with
  | [y0, y1, y2, y3], _ =>
    have g0 := hf 0 _ rfl
    have g1 := hf 1 _ rfl
    have g2 := hf 2 _ rfl
    have g3 := hf 3 _ rfl
    simp [Try.cellsI64] at g0
    simp [Try.cellsI64] at g1
    simp [Try.cellsStr'] at g2
    simp [Try.cellsBoo] at g3
    obtain ⟨z0, e0, _, _⟩ := DataW.trod_int Try.underlying2 g0
    obtain ⟨z1, e1, _, _⟩ := DataW.trod_int Try.underlying2 g1
    obtain ⟨z2, e2, _, _⟩ := DataW.trod_string Try.underlying9 g2
    obtain ⟨z3, e3, _⟩ := DataW.trod_bool Try.underlying4 g3
    simp only [List.cons.injEq, and_true] at e0 e1 e2 e3
    exact ⟨z0, z1, z2.data.toList, z3, e0, e1, by rw [e2, ← B_of], e3⟩

/-- A command, opened. -/
theorem open_command {v : Value} {d : DataW H} {p : List MemPlace} {base : Nat} (hv : Value.okWide Try.prog W .any base 31 v) (h : DataW.Trod enc Try.prog W 0 (fun _ => true) true 31 v d p) (hsz : ∀ n ∈ d.weights Try.prog 31, n ≤ reachBytes) :
    ∃ c : Cd, CdW W v c ∧ Ln c := by
  obtain ⟨cs, rfl, hcs⟩ := okWide_struct Try.underlying31 hv
  rw [Try.cellsCd] at hcs
  obtain ⟨fuel, hf⟩ := h
  have hf : DataW.trod enc Try.prog W 0 (fun _ => true) true fuel 31 cs.toList = some (d, p) := by simpa [Value.cells] using hf
  obtain ⟨cs⟩ := cs
  simp only at hf
  have hlen : cs.length = 16 := by simpa using hcs
  obtain ⟨xs, k, hk, hxy, _, hxl, hf⟩ := DataW.trod_struct Try.underlying31 hf
  match xs, hxl, cs, hlen with
  | [y0, y1, y2, y3, y4, y5, y6, y7, y8, y9, y10, y11], _, [v0, v1, v2, v3, v4, v5, v6, v7, v8, v9, v10, v11, v12, v13, v14, v15], _ =>
    have g0 := hf 0 _ rfl
    have g1 := hf 1 _ rfl
    have g2 := hf 2 _ rfl
    have g3 := hf 3 _ rfl
    have g4 := hf 4 _ rfl
    have g5 := hf 5 _ rfl
    have g6 := hf 6 _ rfl
    have g7 := hf 7 _ rfl
    have g8 := hf 8 _ rfl
    have g9 := hf 9 _ rfl
    have g10 := hf 10 _ rfl
    have g11 := hf 11 _ rfl
    simp [Try.cellsInt, Try.cellsI64, Try.cellsBoo, Try.cellsPs, Try.cellsStr', Try.cellsSt, Try.cellsGs, Try.cellsWt] at g0
    simp [Try.cellsInt, Try.cellsI64, Try.cellsBoo, Try.cellsPs, Try.cellsStr', Try.cellsSt, Try.cellsGs, Try.cellsWt] at g1
    simp [Try.cellsInt, Try.cellsI64, Try.cellsBoo, Try.cellsPs, Try.cellsStr', Try.cellsSt, Try.cellsGs, Try.cellsWt] at g2
    simp [Try.cellsInt, Try.cellsI64, Try.cellsBoo, Try.cellsPs, Try.cellsStr', Try.cellsSt, Try.cellsGs, Try.cellsWt] at g3
    simp [Try.cellsInt, Try.cellsI64, Try.cellsBoo, Try.cellsPs, Try.cellsStr', Try.cellsSt, Try.cellsGs, Try.cellsWt] at g4
    simp [Try.cellsInt, Try.cellsI64, Try.cellsBoo, Try.cellsPs, Try.cellsStr', Try.cellsSt, Try.cellsGs, Try.cellsWt] at g5
    simp [Try.cellsInt, Try.cellsI64, Try.cellsBoo, Try.cellsPs, Try.cellsStr', Try.cellsSt, Try.cellsGs, Try.cellsWt] at g6
    simp [Try.cellsInt, Try.cellsI64, Try.cellsBoo, Try.cellsPs, Try.cellsStr', Try.cellsSt, Try.cellsGs, Try.cellsWt] at g7
    simp [Try.cellsInt, Try.cellsI64, Try.cellsBoo, Try.cellsPs, Try.cellsStr', Try.cellsSt, Try.cellsGs, Try.cellsWt] at g8
    simp [Try.cellsInt, Try.cellsI64, Try.cellsBoo, Try.cellsPs, Try.cellsStr', Try.cellsSt, Try.cellsGs, Try.cellsWt] at g9
    simp [Try.cellsInt, Try.cellsI64, Try.cellsBoo, Try.cellsPs, Try.cellsStr', Try.cellsSt, Try.cellsGs, Try.cellsWt] at g10
    simp [Try.cellsInt, Try.cellsI64, Try.cellsBoo, Try.cellsPs, Try.cellsStr', Try.cellsSt, Try.cellsGs, Try.cellsWt] at g11
    have hd := congrArg Prod.fst hxy
    simp only at hd
    have hw : ∀ (m : Nat) (n : Nat), n ∈ DataW.weights Try.prog 31 d → n ≤ reachBytes := fun _ n h => hsz n h
    obtain ⟨z0, e0, _, _⟩ := DataW.trod_int Try.underlying3 g0
    obtain ⟨z1, e1, _, _⟩ := DataW.trod_int Try.underlying2 g1
    obtain ⟨z2, e2, _, _⟩ := DataW.trod_int Try.underlying2 g2
    obtain ⟨z3, e3, _, _⟩ := DataW.trod_int Try.underlying2 g3
    obtain ⟨z7, e7, _, _⟩ := DataW.trod_int Try.underlying2 g7
    obtain ⟨z8, e8, _, _⟩ := DataW.trod_int Try.underlying3 g8
    obtain ⟨z4, e4, _⟩ := DataW.trod_bool Try.underlying4 g4
    obtain ⟨z6, e6, _, _⟩ := DataW.trod_string Try.underlying9 g6
    obtain ⟨ps, f5, n5⟩ := open_pieces_in g5 (fun n hn => hsz n (by rw [hd]; simp only [DataW.weights, Try.underlying31, List.map_cons, List.map_nil, DataW.weightsEach, List.mem_append]; simp [hn]))
    obtain ⟨st, fn, ft, n9, n10⟩ := open_store_in g9 (fun n hn => hsz n (by rw [hd]; simp only [DataW.weights, Try.underlying31, List.map_cons, List.map_nil, DataW.weightsEach, List.mem_append]; simp [hn]))
    obtain ⟨gn, f11, n11⟩ := open_strings_in g10 (fun n hn => hsz n (by rw [hd]; simp only [DataW.weights, Try.underlying31, List.map_cons, List.map_nil, DataW.weightsEach, List.mem_append]; simp [hn]))
    obtain ⟨ws, wn, wp, dp, e12, e13, e14, e15⟩ := open_watch_in g11
    simp only [List.cons.injEq, and_true] at e0 e1 e2 e3 e4 e6 e7 e8
    subst e0 e1 e2 e3 e4 e6 e7 e8 e12 e13 e14 e15
    exact ⟨⟨z0, z1, z2, z3, z4, ps, z6.data.toList, z7, z8, st, gn, ws, wn, wp, dp⟩, ⟨v5, v9, v10, v11, by unfold cdL; rw [← B_of], f5, fn, ft, f11⟩, ⟨n5, n9, n10, n11⟩⟩
end
end Go.Proofs.Ytlmfinpmlilcgaa

/- The writer of package pack: contracts over plain lists. -/
namespace Go.Proofs.Ytlmfinpmlilcgaa
set_option maxRecDepth 20000
open Go.RowKit Pm

abbrev TW : TypeId := 56

def wNum (l : Bs) (bad : Bool) (n : Int) : Bs × Bool := if n < 0 ∨ (M : Int) < n then (l, true) else (l ++ enc n.toNat, bad)

set_option maxHeartbeats 1000000 in
theorem Num_bad (lo b : Nat) (v : Value) (l : Bs) (bad : Bool) (n : Int) (w : World) (h : Wr TW lo b v l bad w) (hn : n < 0 ∨ (M : Int) < n) :
    Calls Try.prog 56 #[.pointer (some ⟨b, 0, none⟩), .int .i64 n] w fun e w' => e = .returned (.tuple #[]) ∧ WrStep TW lo b v l true w w' := by
  unfold M at hn
  have hb := h.blk
  have c1 := h.cell1
  have f1 : w.frozen? ⟨b, 1, none⟩ = false := by simp [World.frozen?, hb]
  have hfin : WrStep TW lo b v l true w (w.setCell ⟨b, 1, none⟩ (.bool true)) := by
    refine ⟨v, ⟨h.low, by simp [World.setCell, Array.getElem?_modify, hb], ?_, h.apart⟩, (Fp.refl _ w).setCell (p := ⟨b, 1, none⟩) (.inl (.inl rfl)) _, fun _ h => .inl h⟩
    exact ((Fp.refl (fun k => k = b) w).setCell (p := ⟨b, 1, none⟩) (.inl rfl) (.bool true)).owns h.own (fun k hk e => h.apart (by rw [← e]; exact hk))
  have HF := Lib.hid hfin; clear hfin h
  rcases hn with hn | hn
  · go_enter Try.func56, Try.ntmps56
    go_wp2
    refine bodyPost_ret (results_none rfl _ _ _) rfl ?_
    exact ⟨rfl, HF.out⟩
  · have h0 : ¬ n < 0 := by omega
    go_enter Try.func56, Try.ntmps56
    go_wp2
    refine bodyPost_ret (results_none rfl _ _ _) rfl ?_
    exact ⟨rfl, HF.out⟩

theorem shr7 (n k : Nat) : ((n : Int) / 2 ^ (7 * k)) = ((n / 128 ^ k : Nat) : Int) := by
  rw [Int.natCast_ediv, Int.natCast_pow, Int.pow_mul]; rfl

theorem step7 (n k : Nat) : n / 128 ^ (k + 1) = n / 128 ^ k / 128 := by rw [Nat.pow_succ, Nat.div_div_eq_div_mul]

theorem step_of {T : TypeId} {lo b : Nat} {v v1 : Value} {l : Bs} {bad : Bool} {w w1 w2 : World} (h : Fp (own2 b v) w w1 ∧ ∀ k, v1.ownBlock = some k → v.ownBlock = some k ∨ w.heap.size ≤ k)
    (g : WrStep T lo b v1 l bad w1 w2) : WrStep T lo b v l bad w w2 := by
  obtain ⟨v2, g1, g2, g3⟩ := g
  refine ⟨v2, g1, h.1.trans g2 (own2_next h.2), fun k hk => ?_⟩
  rcases g3 k hk with e | e
  · exact h.2 k e
  · right; have := h.1.size; omega

set_option maxHeartbeats 2000000 in
theorem Num_ok (lo b : Nat) (v : Value) (l : Bs) (bad : Bool) (n : Nat) (w : World) (h : Wr TW lo b v l bad w) (hn : n ≤ M) (hl : l.length ≤ 50000000) :
    Calls Try.prog 56 #[.pointer (some ⟨b, 0, none⟩), .int .i64 n] w fun e w' => e = .returned (.tuple #[]) ∧ WrStep TW lo b v (l ++ enc n) bad w w' := by
  have hn' : (n : Int) ≤ 281474976710656 := by unfold M at hn; omega
  have hlow := h.low
  have hlt := h.lt
  have HN := Lib.hid hn; clear hn
  go_enter Try.func56, Try.ntmps56
  go_wp2_with fail
  go_loopw [4, 5] (fun s _ wr => ∃ k : Nat, k ≤ 6 ∧ s = .int .i64 (7 * (k : Int)) ∧ WrStep TW lo b v (l ++ hi (n / 128 ^ (k + 1))) bad w wr) (fun s _ _ => (intOf s).toNat)
  case atStart =>
    refine ⟨6, Nat.le_refl _, rfl, ?_⟩
    rw [Nat.div_eq_of_lt (by have := HN.out; unfold M at this; omega), hi_zero, List.append_nil]
    exact WrStep.refl h
  case round =>
    obtain ⟨k, hk, rfl, v1, h1, hf, hfr⟩ := hrel
    have hsz := hf.size
    have hhl := hi_len 7 (n / 128 ^ (k + 1)) (by have := HN.out; unfold M at this; exact Nat.lt_of_le_of_lt (Nat.div_le_self _ _) (by omega))
    rcases k with _ | k
    · generalize hL : l ++ hi (n / 128 ^ (0 + 1)) = L at h1
      have hLl : L.length ≤ 60000000 := by rw [← hL, List.length_append]; omega
      have HL : Hid (l ++ enc n = L ++ [dg (n % 128)]) := by
        rw [← hL, List.append_assoc]; unfold enc; rw [Nat.zero_add, Nat.pow_one]; exact rfl
      clear hL
      have happ := app_byte wr lo _ L (n % 128) 32 (by omega) h1.own (by omega) (by omega)
      have c0 := h1.cell0
      obtain ⟨ao, m, cap, rfl⟩ := h1.shape
      have H1 := Lib.hid (And.intro h1 (And.intro hf hfr)); clear h1 hf hfr
      have HA := Lib.hid happ; clear happ
      go_wp2_with (at_builtin; go_must (refine wpList_app rfl _ _ _ _ rfl _ _ rfl rfl _ HA.out ?_))
      intro v' w2 hR
      obtain ⟨hb2, hW⟩ := H1.out.1.put (x := [dg (n % 128)]) ((Fp.refl Non wr).alloc _) hR
      have d0 : w2.cell? ⟨b, 0, none⟩ = some (.slice ao m cap) := by simp [World.cell?, hb2]
      have f0 : w2.frozen? ⟨b, 0, none⟩ = false := by simp [World.frozen?, hb2]
      obtain ⟨ao', m', cap', rfl⟩ : ∃ ao n cap, v' = .slice ao n cap := by
        rcases hR.own.2 with ⟨hv, _⟩ | ⟨g, cap, cur, hv, _⟩
        · exact ⟨_, _, _, hv⟩
        · exact ⟨_, _, _, hv⟩
      have HW := Lib.hid (And.intro H1.out.2 hW); clear hW hR hb2 H1 HA
      go_wp2
      go_end0
      exact ⟨rfl, by rw [HL.out]; exact step_of HW.out.1 HW.out.2⟩
    · generalize hq : n / 128 ^ (k + 1) = q at hhl
      have hq' : (n : Int) / 2 ^ (7 * (k + 1)) = (q : Int) := by rw [shr7, hq]
      have hqn : q ≤ n := by rw [← hq]; exact Nat.div_le_self _ _
      have hL : hi (n / 128 ^ (k + 1 + 1)) = hi (q / 128) := by rw [step7, hq]
      rw [hL] at h1
      have HQ := Lib.hid hq; clear hq hL
      have c0 := h1.cell0
      obtain ⟨ao, m, cap, rfl⟩ := h1.shape
      have HS : Hid (∀ wr', WrStep TW lo b v (l ++ hi q) bad w wr' → WrStep TW lo b v (l ++ hi (n / 128 ^ (k + 1))) bad w wr') := fun _ h => by rw [HQ.out]; exact h
      by_cases hpos : 0 < q
      · have hi1 : hi q = hi (q / 128) ++ [dg (128 + q % 128)] := hi_pos q hpos
        generalize hL : l ++ hi (q / 128) = L at h1
        have hLl : L.length ≤ 60000000 := by rw [← hL, List.length_append]; have h8 := hi_mono (q / 128) q (by omega); have h9 := hi_len 7 q (by have := HN.out; unfold M at this; omega); omega
        have HL : Hid (l ++ hi q = L ++ [dg (128 + q % 128)]) := by
          rw [← hL, List.append_assoc, hi1]; exact rfl
        clear hL hi1
        have happ := app_byte wr lo _ L (128 + q % 128) 32 (by omega) h1.own (by omega) (by omega)
        have H1 := Lib.hid (And.intro h1 (And.intro hf hfr)); clear h1 hf hfr
        have HA := Lib.hid happ; clear happ
        go_wp2_with (at_builtin; go_must (refine wpList_app rfl _ _ _ _ rfl _ _ rfl rfl _ HA.out ?_))
        intro v' w2 hR
        obtain ⟨hb2, hW⟩ := H1.out.1.put (x := [dg (128 + q % 128)]) ((Fp.refl Non wr).alloc _) hR
        have d0 : w2.cell? ⟨b, 0, none⟩ = some (.slice ao m cap) := by simp [World.cell?, hb2]
        have f0 : w2.frozen? ⟨b, 0, none⟩ = false := by simp [World.frozen?, hb2]
        obtain ⟨ao', m', cap', rfl⟩ : ∃ ao n cap, v' = .slice ao n cap := by
          rcases hR.own.2 with ⟨hv, _⟩ | ⟨g, cap, cur, hv, _⟩
          · exact ⟨_, _, _, hv⟩
          · exact ⟨_, _, _, hv⟩
        have HW := Lib.hid (And.intro H1.out.2 hW); clear hW hR hb2 H1 HA
        go_wp2
        go_roundw
        case rel => exact ⟨k, by omega, by congr 1; omega, HS.out _ (by rw [HL.out]; exact step_of HW.out.1 HW.out.2)⟩
        case measure => simp [intOf]; omega
      · have h0 : q = 0 := by omega
        subst h0
        have H1 := Lib.hid (And.intro h1 (And.intro hf hfr)); clear h1 hf hfr
        go_wp2
        go_roundw
        case rel => exact ⟨k, by omega, by congr 1; omega, HS.out _ (by have h := H1.out; rw [Nat.zero_div, hi_zero] at h; rw [hi_zero]; exact ⟨_, h.1, h.2.1, h.2.2⟩)⟩
        case measure => simp [intOf]; omega

theorem Num_c (lo b : Nat) (v : Value) (l : Bs) (bad : Bool) (n : Int) (w : World) (h : Wr TW lo b v l bad w) (hl : l.length ≤ 50000000) :
    Calls Try.prog 56 #[.pointer (some ⟨b, 0, none⟩), .int .i64 n] w fun e w' => e = .returned (.tuple #[]) ∧ WrStep TW lo b v (wNum l bad n).1 (wNum l bad n).2 w w' := by
  unfold wNum
  by_cases hn : n < 0 ∨ (M : Int) < n
  · rw [if_pos hn]; exact Num_bad lo b v l bad n w h hn
  · rw [if_neg hn]
    obtain ⟨k, rfl⟩ := Int.eq_ofNat_of_zero_le (show 0 ≤ n by omega)
    exact Num_ok lo b v l bad k w h (by omega) hl

set_option maxHeartbeats 1000000 in
theorem Text_c (lo b : Nat) (v : Value) (l s : Bs) (bad : Bool) (w : World) (h : Wr TW lo b v l bad w) (hl : l.length + s.length ≤ 50000000) :
    Calls Try.prog 34 #[.pointer (some ⟨b, 0, none⟩), .string (B s)] w fun e w' => e = .returned (.tuple #[]) ∧ WrStep TW lo b v (l ++ encT s) bad w w' := by
  have hlow := h.low
  have hlt := h.lt
  go_enter Try.func34, Try.ntmps34
  go_wp2_with fail
  refine (Num_ok lo b v l bad s.length w h (by unfold M; omega) (by omega)).mono ?_
  rintro e w1 ⟨rfl, v1, h1, hf, hfr⟩
  have hsz := hf.size
  have hen := enc_len s.length (by unfold M; omega)
  generalize hL : l ++ enc s.length = L at h1
  have hLl : L.length + s.length ≤ 60000000 := by rw [← hL, List.length_append]; omega
  have HL : Hid (l ++ encT s = L ++ s) := by rw [← hL, List.append_assoc]; exact rfl
  clear hL hen
  have happ := app_text w1 lo _ L s 32 h1.own (by omega) (by omega)
  have c0 := h1.cell0
  obtain ⟨ao, m, cap, rfl⟩ := h1.shape
  have H1 := Lib.hid (And.intro h1 (And.intro hf hfr)); clear h1 hf hfr h
  have HA := Lib.hid happ; clear happ
  go_wp2_with (at_builtin; go_must (refine wpList_app rfl _ _ _ _ rfl _ _ rfl rfl _ HA.out ?_))
  intro v' w2 hR
  obtain ⟨hb2, hW⟩ := H1.out.1.put (x := s) (Fp.refl Non w1) hR
  have d0 : w2.cell? ⟨b, 0, none⟩ = some (.slice ao m cap) := by simp [World.cell?, hb2]
  have f0 : w2.frozen? ⟨b, 0, none⟩ = false := by simp [World.frozen?, hb2]
  obtain ⟨ao', m', cap', rfl⟩ : ∃ ao n cap, v' = .slice ao n cap := by
    rcases hR.own.2 with ⟨hv, _⟩ | ⟨g, cap, cur, hv, _⟩
    · exact ⟨_, _, _, hv⟩
    · exact ⟨_, _, _, hv⟩
  have HW := Lib.hid (And.intro H1.out.2 hW); clear hW hR hb2 H1 HA
  go_wp2
  go_end0
  exact ⟨rfl, by rw [HL.out]; exact step_of HW.out.1 HW.out.2⟩
end Go.Proofs.Ytlmfinpmlilcgaa

/- The writer of package pack, and the document's own: contracts over plain lists. -/
namespace Go.Proofs.Ytlmfinpmlilcgaa
set_option maxRecDepth 20000
open Go.RowKit Pm

def szs (ps : List Bs) : Nat := (ps.map List.length).sum
theorem szs_take_succ (r : List Bs) (k : Nat) (h : k < r.length) : szs (r.take (k + 1)) = szs (r.take k) + r[k].length := by
  rw [List.take_succ_eq_append_getElem h]; unfold szs; rw [List.map_append, List.sum_append]; simp
theorem szs_take_le : ∀ (r : List Bs) (k : Nat), szs (r.take k) ≤ szs r
  | [], k => by simp [szs]
  | p :: r, 0 => by simp [szs]
  | p :: r, k + 1 => by have := szs_take_le r k; simp [szs] at this ⊢; omega
theorem szs_get (r : List Bs) (k : Nat) (h : k < r.length) : r[k].length ≤ szs r := by
  have := szs_take_succ r k h; have := szs_take_le r (k + 1); omega
theorem encL_len : ∀ (r : List Bs), szs r ≤ M → (encL r).length ≤ 8 * (r.length + szs r)
  | [], _ => by simp [encL]
  | p :: r, h => by
    have e : szs (p :: r) = p.length + szs r := by simp [szs]
    have := encL_len r (by omega)
    have := enc_len p.length (by omega)
    rw [encL_cons, List.length_append, e]; unfold encT; simp; omega

set_option maxHeartbeats 1000000 in
theorem Texts_c (lo b : Nat) (v : Value) (l : Bs) (bad : Bool) (vs : Value) (ps : List Bs) (w : World) (h : Wr TW lo b v l bad w) (hs : Ss w vs ps) (hd : 0 < ps.length → ∀ k, vs.ownBlock = some k → k < lo) (hl : l.length + 8 * (ps.length + szs ps) ≤ 40000000) :
    Calls Try.prog 39 #[.pointer (some ⟨b, 0, none⟩), vs] w fun e w' => e = .returned (.tuple #[]) ∧ WrStep TW lo b v (l ++ encTs ps) bad w w' := by
  have hall := h.all
  have hen := enc_len ps.length (by unfold M; omega)
  obtain ⟨ao, cap, rfl, h1, h2, h3⟩ := hs.ex
  unfold maxLen at h2
  have HD := Lib.hid hd; clear hd
  go_enter Try.func39, Try.ntmps39
  go_wp2_with fail
  refine (Num_ok lo b v l bad ps.length w h (by unfold M; omega) (by omega)).mono ?_
  rintro e w1 ⟨rfl, hst⟩
  have HS := Lib.hid hs; clear hs
  have HL : Hid (encTs ps = enc ps.length ++ encL ps) := rfl
  go_wp2_with fail
  go_loopw [12, 5] (fun i _ wr => ∃ k : Nat, k ≤ ps.length ∧ i = .int .i64 k ∧ WrStep TW lo b v (l ++ enc ps.length ++ encL (ps.take k)) bad w wr) (fun i _ _ => ps.length - (intOf i).toNat)
  case atStart => exact ⟨0, Nat.zero_le _, rfl, by simpa [encL] using hst⟩
  case round =>
    obtain ⟨k, hk, rfl, v1, h1', hf, hfr⟩ := hrel
    by_cases hlt : k < ps.length
    · have hks := HS.out.keep hf (fun h0 j hj hj2 => by have := (hall j hj2).1; have := HD.out h0 j hj; omega)
      obtain ⟨ao2, cap2, e, _, _, h4⟩ := hks.ex
      injection e with e1 _ e3
      subst e1 e3
      rcases h4 with h0 | ⟨g, o, rfl, hg, hc⟩
      · omega
      · have hck := hc k hlt
        have hst' := encL_take_succ ps k hlt
        have hle := encL_len (ps.take k) (by have := szs_take_le ps k; unfold M; omega)
        have hle2 := szs_take_succ ps k hlt
        have hle3 := szs_take_le ps (k + 1)
        have hle4 : (ps.take k).length = k := by rw [List.length_take]; omega
        generalize hq : ps[k] = q at hck hst' hle2
        generalize hL : l ++ enc ps.length ++ encL (ps.take k) = L at h1'
        have hLl : L.length + q.length ≤ 50000000 := by rw [← hL]; simp only [List.length_append]; omega
        have HL' := Lib.hid (show l ++ enc ps.length ++ encL (ps.take (k + 1)) = L ++ encT q by rw [hst', ← hL]; simp only [List.append_assoc])
        clear hc h3 hst hst' hle hle2 hle3 hle4 hq hL hks
        have HF := Lib.hid (And.intro hf hfr); clear hf hfr
        go_wp2_with fail
        refine (Text_c lo b v1 L q bad wr h1' hLl).mono ?_
        rintro e w2 ⟨rfl, hw2⟩
        go_wp2
        go_roundw
        case rel => exact ⟨k + 1, by omega, by go_num, by rw [HL'.out]; exact step_of HF.out hw2⟩
        case measure => simp [intOf]; omega
    · have hke : k = ps.length := by omega
      subst hke
      rw [List.take_length] at h1'
      have HF := Lib.hid (And.intro h1' (And.intro hf hfr)); clear h1' hf hfr hst
      go_wp2
      go_end0
      exact ⟨rfl, by rw [HL.out, ← List.append_assoc]; exact ⟨_, HF.out.1, HF.out.2.1, HF.out.2.2⟩⟩

/-- slices.Clone of bytes. -/
theorem Clone_c (v : Value) (l : Bs) (w : World) (h : Sl w v l) (hl : l.length ≤ 50000000) :
    Calls Try.prog 40 #[v] w fun e w' => ∃ v', e = .returned v' ∧ Nw w w' v' l := by
  obtain ⟨ao, cap, rfl, h1, h2, h3⟩ := h.ex
  rcases h3 with ⟨rfl, rfl⟩ | ⟨g, o, rfl, hg, hc⟩
  · have h0 : l = [] := List.eq_nil_of_length_eq_zero (by omega)
    subst h0
    have HN := Lib.hid (Nw.nil w)
    have he : ∀ w : World, (binOp .eql 32 (.slice none 0 0) (.slice none 0 0)).run Try.prog w = .ok (.bool true) w := fun _ => rfl
    go_enter Try.func40, Try.ntmps40
    go_wp2
    go_ret
    exact ⟨_, rfl, HN.out⟩
  · have happ := app_sl (w.alloc (.cells #[] 5)) w.heap.size _ [] l 32 _ (World.ownsRow_made w #[] 0 (Nat.le_refl _) (Nat.zero_le _) rfl) (h.keep ((Fp.refl Non w).alloc _) (fun _ _ h => h)) (by simp; omega) (by simp)
    have HA := Lib.hid happ; clear happ hc
    have he : ∀ w : World, (binOp .eql 32 (.slice (some ⟨g, o, none⟩) l.length cap) (.slice none 0 0)).run Try.prog w = .ok (.bool false) w := fun _ => rfl
    go_enter Try.func40, Try.ntmps40
    go_wp2_with (at_builtin; go_must (refine wpList_app rfl _ _ _ _ rfl _ _ rfl rfl _ HA.out ?_))
    intro v' w2 hR
    have hN : Nw w w2 v' l := ⟨by simpa using hR.own, ((Fp.refl Non w).alloc _).grown hR.grown (fun k hk => by simp [Value.ownBlock] at hk; omega)⟩
    have HN := Lib.hid hN; clear hN hR HA
    go_wp2
    go_ret
    exact ⟨_, rfl, HN.out⟩

theorem Bytes_c (lo b : Nat) (v : Value) (l : Bs) (bad : Bool) (w : World) (h : Wr TW lo b v l bad w) (hl : l.length ≤ 50000000) :
    Calls Try.prog 16 #[.pointer (some ⟨b, 0, none⟩)] w fun e w' => ∃ v', e = .returned (.tuple #[v', .int .i64 (if bad then 1 else 0)]) ∧ Nw w w' v' (if bad then [] else l) := by
  have c0 := h.cell0
  have c1 := h.cell1
  have hS := Sl.of_owns h.own
  clear h
  cases bad with
  | true =>
    have HN := Lib.hid (Nw.nil w); clear hS
    go_enter Try.func16, Try.ntmps16
    go_wp2
    go_ret2
    exact ⟨_, rfl, HN.out⟩
  | false =>
    obtain ⟨ao, cap, rfl, h1, h2, h3⟩ := hS.ex
    have HS := Lib.hid hS; clear hS h3
    go_enter Try.func16, Try.ntmps16
    go_wp2_with fail
    refine (Clone_c _ l _ HS.out hl).mono ?_
    rintro e w1 ⟨v', rfl, hN⟩
    have HN := Lib.hid hN
    obtain ⟨ao', cap', rfl⟩ := hN.shape
    clear hN
    go_wp2
    go_ret2
    exact ⟨_, rfl, HN.out⟩
end Go.Proofs.Ytlmfinpmlilcgaa

/- The reader of package pack: contracts over plain lists. -/
namespace Go.Proofs.Ytlmfinpmlilcgaa
set_option maxRecDepth 20000
open Go.RowKit Pm

abbrev TI : TypeId := 91

theorem val_take_succ (l : Bs) (k : Nat) (h : k < l.length) : val (l.take (k + 1)) = val (l.take k) * 128 + l[k].toNat % 128 := by
  rw [List.take_succ_eq_append_getElem h, val_snoc]
theorem val_lt : ∀ (k : Nat) (l : Bs), l.length ≤ k → val l < 128 ^ k := by
  intro k
  induction k with
  | zero => intro l h; have : l = [] := List.eq_nil_of_length_eq_zero (by omega)
            subst this; simp [val]
  | succ k ih =>
    intro l h
    by_cases h0 : l = []
    · subst h0; rw [val_nil]; exact Nat.pow_pos (by omega)
    · obtain ⟨b, c, rfl⟩ : ∃ b c, l = b ++ [c] := ⟨_, _, (List.dropLast_concat_getLast h0).symm⟩
      have := ih b (by simpa using h)
      rw [val_snoc, Nat.pow_succ]; omega

set_option maxHeartbeats 400000 in
theorem numLen_c (l : Bs) (w : World) (hl : l.length ≤ 9223372036854775807) :
    Calls Try.prog 65 #[.string (B l)] w fun e w' => e = .returned (.int .i64 ((lead 7 l + 1 : Nat) : Int)) ∧ w = w' := by
  go_enter Try.func65, Try.ntmps65
  go_wp2_with fail
  go_loop [3] (fun n => ∃ k : Nat, k ≤ 7 ∧ k ≤ l.length ∧ n = .int .i64 k ∧ Hid (∀ i (h : i < l.length), i < k → 128 ≤ l[i].toNat)) (fun n => 7 - (intOf n).toNat)
  case atStart => exact ⟨0, by omega, by omega, rfl, fun i h hn => by omega⟩
  case round =>
    obtain ⟨k, hk, hkl, rfl, ha⟩ := hrel
    by_cases h1 : k < l.length
    · by_cases h2 : k < 7
      · by_cases h3 : 128 ≤ l[k].toNat
        · have h3' : (128 : Int) ≤ ((l[k].toNat : Nat) : Int) := by omega
          go_wp2
          go_round
          case rel => exact ⟨k + 1, by omega, by omega, by go_num, fun i hi hn => by
            by_cases hik : i = k
            · subst hik; exact h3
            · exact ha i hi (by omega)⟩
          case measure => simp [intOf]; omega
        · have h3' : ¬ (128 : Int) ≤ ((l[k].toNat : Nat) : Int) := by omega
          have hle : lead 7 l = k := lead_stop k l (by omega) (by omega) ha (Or.inr (Or.inr ⟨h1, by omega⟩))
          have HL := Lib.hid hle; clear hle
          go_wp2
          go_ret
          exact ⟨ret_int (by rw [HL.out]), rfl⟩
      · have hle : lead 7 l = k := lead_stop k l (by omega) (by omega) ha (Or.inl (by omega))
        have HL := Lib.hid hle; clear hle
        go_wp2
        go_ret
        exact ⟨ret_int (by rw [HL.out]), rfl⟩
    · have hle : lead 7 l = k := lead_stop k l (by omega) (by omega) ha (Or.inr (Or.inl (by omega)))
      have HL := Lib.hid hle; clear hle
      go_wp2
      go_ret
      exact ⟨ret_int (by rw [HL.out]), rfl⟩

set_option maxHeartbeats 400000 in
theorem value_c (l : Bs) (w : World) (hl : l.length ≤ 7) :
    Calls Try.prog 66 #[.string (B l)] w fun e w' => e = .returned (.int .i64 (val l)) ∧ w = w' := by
  go_enter Try.func66, Try.ntmps66
  go_wp2_with fail
  go_loop [3, 4, 7] (fun n _ i => ∃ k : Nat, k ≤ l.length ∧ i = .int .i64 k ∧ n = .int .i64 (val (l.take k))) (fun _ _ i => l.length - (intOf i).toNat)
  case atStart => exact ⟨0, by omega, rfl, rfl⟩
  case round =>
    obtain ⟨k, hk, rfl, rfl⟩ := hrel
    by_cases h1 : k < l.length
    · have hv := val_take_succ l k h1
      have hb := val_lt 6 (l.take k) (by rw [List.length_take]; omega)
      have hb2 : val (l.take (k + 1)) < 128 ^ 7 := val_lt 7 (l.take (k + 1)) (by rw [List.length_take]; omega)
      generalize hv0 : val (l.take (k + 1)) = v' at hv hb2
      have HV0 := Lib.hid hv0.symm; clear hv0
      generalize val (l.take k) = v at hv hb
      have HV := Lib.hid hv; clear hv
      have hc := l[k].toNat_lt
      have hb' : (v : Int) < 4398046511104 := by omega
      clear hb
      go_wp2
      go_round
      case rel => exact ⟨k + 1, by omega, by go_num, by rw [← HV0.out, HV.out]; congr 1⟩
      case measure => simp [intOf]; omega
    · have hke : k = l.length := by omega
      subst hke
      rw [List.take_length]
      go_wp2
      go_ret
      exact ⟨rfl, rfl⟩

/-- A reader: what is left, and the error. -/
structure Rr (lo b : Nat) (s : Rst) (w : World) : Prop where
  low : lo ≤ b
  blk : w.heap[b]? = some (.cells #[.string (B s.1), .int .i64 s.2] TI (0, 0))
def RrStep (lo b : Nat) (s : Rst) (w w' : World) : Prop := Rr lo b s w' ∧ Fp (fun k => k = b) w w'

theorem Rr.lt {lo b : Nat} {s : Rst} {w : World} (h : Rr lo b s w) : b < w.heap.size := (Array.getElem?_eq_some_iff.1 h.blk).1
theorem Rr.cell0 {lo b : Nat} {s : Rst} {w : World} (h : Rr lo b s w) : w.cell? ⟨b, 0, none⟩ = some (.string (B s.1)) := by simp [World.cell?, h.blk]
theorem Rr.cell1 {lo b : Nat} {s : Rst} {w : World} (h : Rr lo b s w) : w.cell? ⟨b, 1, none⟩ = some (.int .i64 s.2) := by simp [World.cell?, h.blk]
theorem Rr.free {lo b : Nat} {s : Rst} {w : World} (h : Rr lo b s w) : w.frozen? ⟨b, 0, none⟩ = false ∧ w.frozen? ⟨b, 1, none⟩ = false := by
  have := h.blk; constructor <;> simp [World.frozen?, this]
theorem Rr.keep {lo b : Nat} {s : Rst} {w w' : World} (h : Rr lo b s w) {S : Nat → Prop} (f : Fp S w w') (hS : ¬ S b) : Rr lo b s w' := ⟨h.low, f.heap h.blk hS⟩
theorem RrStep.refl {lo b : Nat} {s : Rst} {w : World} (h : Rr lo b s w) : RrStep lo b s w w := ⟨h, Fp.refl _ _⟩
theorem RrStep.drewN {lo b : Nat} {s : Rst} {w w' : World} (h : RrStep lo b s w w') (n : Nat) : RrStep lo b s w (w'.drewN n) := ⟨⟨h.1.low, h.1.blk⟩, h.2.drewN n⟩
theorem RrStep.put0 {lo b : Nat} {s : Rst} {w w' : World} (h : RrStep lo b s w w') (l : Bs) : RrStep lo b (l, s.2) w (w'.setCell ⟨b, 0, none⟩ (.string (B l))) :=
  ⟨⟨h.1.low, by have := h.1.blk; simp [World.setCell, Array.getElem?_modify, this]⟩, h.2.setCell (p := ⟨b, 0, none⟩) (.inl rfl) _⟩
theorem RrStep.put1 {lo b : Nat} {s : Rst} {w w' : World} (h : RrStep lo b s w w') (e : Int) : RrStep lo b (s.1, e) w (w'.setCell ⟨b, 1, none⟩ (.int .i64 e)) :=
  ⟨⟨h.1.low, by have := h.1.blk; simp [World.setCell, Array.getElem?_modify, this]⟩, h.2.setCell (p := ⟨b, 1, none⟩) (.inl rfl) _⟩

theorem B_nil : B [] = ⟨#[]⟩ := rfl

/-- The frame at the place to which errors jump. -/
def NextFrame (b : Nat) (err : Int) (a : Act) : Prop := ∃ u1 u2 u3 u4 u5 u6 u7 u8 u10 u11 u12 u13 u14 u15 u16 u17 u18 u19 u20 u21 u22 u23 u24 u25 u26 u27 u28 u29 u30 u31 u32 u33 u34 u35 u36 u37 u38 u39 u40 u41 u42 u43 u44 u45 u46 u47 u48 u49 u50 u51 u52 u53 u54 u55 u56 u57 u58 u59 u60 u61 u62 u63 u64 u65 u66 u67 u68 u69 u70 u71 u72 u73 u74 u75 : Value, a = { tmps := #[.pointer (some ⟨b, 0, none⟩), u1, u2, u3, u4, u5, u6, u7, u8, .int .i64 err, u10, u11, u12, u13, u14, u15, u16, u17, u18, u19, u20, u21, u22, u23, u24, u25, u26, u27, u28, u29, u30, u31, u32, u33, u34, u35, u36, u37, u38, u39, u40, u41, u42, u43, u44, u45, u46, u47, u48, u49, u50, u51, u52, u53, u54, u55, u56, u57, u58, u59, u60, u61, u62, u63, u64, u65, u66, u67, u68, u69, u70, u71, u72, u73, u74, u75], defers := [] }

theorem B_ne (l : Bs) (h : 0 < l.length) : (B l = ⟨#[]⟩) = False := by
  simp only [eq_iff_iff, iff_false]; intro h'; have := congrArg ByteArray.size h'; rw [B_size] at this; change l.length = 0 at this; omega

end Go.Proofs.Ytlmfinpmlilcgaa

/- (*pack.Reader).next: a walk for each way through it. -/
namespace Go.Proofs.Ytlmfinpmlilcgaa
set_option maxRecDepth 20000
open Go.RowKit Pm

set_option maxHeartbeats 1000000 in
theorem next_ok (lo b : Nat) (l : Bs) (most : Int) (m v : Nat) (w : World) (h : Rr lo b (l, 0) w) (hl : l.length ≤ 1000000) (hl0 : 0 < l.length) (hc : (l[0]'hl0).toNat ≠ 128) (hk : lead 7 l + 1 = m) (hk7 : m ≤ 7) (hkl : m ≤ l.length) (hv : val (l.take m) = v) (hvM : v ≤ M) (hvm : (v : Int) ≤ most) :
    Calls Try.prog 62 #[.pointer (some ⟨b, 0, none⟩), .int .i64 most, .bool false] w fun e w' => e = .returned (.tuple #[.int .i64 v, .string (B [])]) ∧ RrStep lo b (l.drop m, 0) w w' := by
  obtain ⟨f0, f1⟩ := h.free
  have c0 := h.cell0
  have c1 := h.cell1
  have hne : ¬ l = [] := fun h => by rw [h] at hl0; simp at hl0
  have hc' : (((l[0]'hl0).toNat : Int) == 128) = false := beq_eq_false_iff_ne.2 (by omega)
  have hk7' : (m : Int) ≤ 7 := by omega
  have hkl' : (m : Int) ≤ l.length := by omega
  unfold M at hvM
  have hvM' : (v : Int) ≤ 281474976710656 := by omega
  clear hvM
  have hcv := fun w => (value_c (l.take m) w (by rw [List.length_take]; omega)).mono (fun e w' h => (⟨h.1, h.2.symm⟩ : e = .returned (.int .i64 (val (l.take m))) ∧ w' = w))
  rw [hv] at hcv
  have HCV := Lib.hid hcv; clear hcv hv
  have HK := Lib.hid hk; clear hk
  have hdl : (l.drop m).length ≤ 1000000 := by rw [List.length_drop]; omega
  have hte : (l.drop m).take (l.length - m) = l.drop m := List.take_of_length_le (by rw [List.length_drop]; omega)
  generalize hd : l.drop m = d at *
  have HR := Lib.hid h; clear h
  go_enter Try.func62, Try.ntmps62
  go_wp2_with fail
  refine wp_scope_jumps 0 (fun _ _ => False) (fun _ _ => 0) rfl ?_ (fun _ _ h => h.elim)
  go_wp2_with fail
  go_quiet (fail)
  go_wp2_with fail
  refine (numLen_c l _ (by omega)).mono ?_
  rintro e w1 ⟨rfl, rfl⟩
  rw [HK.out]
  go_wp2_with fail
  go_quiet (first | (go_at_call 66; refine (HCV.out _).mono ?_; rintro e w' ⟨rfl, rfl⟩; exact ⟨rfl, _, rfl⟩))
  go_wp2_with fail
  simp only [Exit.jump]
  go_ret2
  exact ⟨rfl, RrStep.put0 (RrStep.drewN (RrStep.refl HR.out) _) _⟩

set_option maxHeartbeats 1000000 in
theorem next_text (lo b : Nat) (l : Bs) (most : Int) (m v : Nat) (w : World) (h : Rr lo b (l, 0) w) (hl : l.length ≤ 1000000) (hl0 : 0 < l.length) (hc : (l[0]'hl0).toNat ≠ 128) (hk : lead 7 l + 1 = m) (hk7 : m ≤ 7) (hkl : m ≤ l.length) (hv : val (l.take m) = v) (hvM : v ≤ M) (hvm : (v : Int) ≤ most) (hvl : v ≤ (l.drop m).length) :
    Calls Try.prog 62 #[.pointer (some ⟨b, 0, none⟩), .int .i64 most, .bool true] w fun e w' => e = .returned (.tuple #[.int .i64 v, .string (B ((l.drop m).take v))]) ∧ RrStep lo b ((l.drop m).drop v, 0) w w' := by
  obtain ⟨f0, f1⟩ := h.free
  have c0 := h.cell0
  have c1 := h.cell1
  have hne : ¬ l = [] := fun h => by rw [h] at hl0; simp at hl0
  have hc' : (((l[0]'hl0).toNat : Int) == 128) = false := beq_eq_false_iff_ne.2 (by omega)
  have hk7' : (m : Int) ≤ 7 := by omega
  have hkl' : (m : Int) ≤ l.length := by omega
  unfold M at hvM
  have hvM' : (v : Int) ≤ 281474976710656 := by omega
  clear hvM
  have hcv := fun w => (value_c (l.take m) w (by rw [List.length_take]; omega)).mono (fun e w' h => (⟨h.1, h.2.symm⟩ : e = .returned (.int .i64 (val (l.take m))) ∧ w' = w))
  rw [hv] at hcv
  have HCV := Lib.hid hcv; clear hcv hv
  have HK := Lib.hid hk; clear hk
  have hdl : (l.drop m).length ≤ 1000000 := by rw [List.length_drop]; omega
  have hte : (l.drop m).take (l.length - m) = l.drop m := List.take_of_length_le (by rw [List.length_drop]; omega)
  generalize hd : l.drop m = d at *
  have hvl' : (v : Int) ≤ d.length := by omega
  have hte2 : (d.drop v).take (d.length - v) = d.drop v := List.take_of_length_le (by rw [List.length_drop]; omega)
  have HR := Lib.hid h; clear h
  go_enter Try.func62, Try.ntmps62
  go_wp2_with fail
  refine wp_scope_jumps 0 (fun _ _ => False) (fun _ _ => 0) rfl ?_ (fun _ _ h => h.elim)
  go_wp2_with fail
  go_quiet (fail)
  go_wp2_with fail
  refine (numLen_c l _ (by omega)).mono ?_
  rintro e w1 ⟨rfl, rfl⟩
  rw [HK.out]
  go_wp2_with fail
  go_quiet (first | (go_at_call 66; refine (HCV.out _).mono ?_; rintro e w' ⟨rfl, rfl⟩; exact ⟨rfl, _, rfl⟩))
  go_wp2_with fail
  go_quiet (fail)
  go_wp2_with fail
  simp only [Exit.jump]
  go_ret2
  exact ⟨rfl, RrStep.put0 (RrStep.drewN (RrStep.refl HR.out) _) _⟩

end Go.Proofs.Ytlmfinpmlilcgaa

