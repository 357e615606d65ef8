/- A text of this proof. -/
import Derived.Test.YtphoglepiegeiaaGreatDoorZAI
import Derived.Test.YtphoglepiegeiaaGreatDoorZAV
namespace Go.Proofs.YtphoglepiegeiaaGreatDoor
set_option linter.unusedSimpArgs false
set_option linter.unusedVariables false
set_option maxRecDepth 20000
set_option linter.unusedVariables false
set_option linter.unusedSimpArgs false
open Go.RowKit Pm
structure GtM (l : List Tu) (w : World) (k : Nat) (N : Int) (wr : World) : Prop where
 fp : Fp Non w wr
 lo : (l.length : Int) ≤ N
 eq : ∀ j (h : j < l.length), j < k → min (l[j].dir.length : Int) 3000 ≤ N
theorem min3 (a : Nat) : (0 : Int) ≤ min (a : Int) 3000 ∧ min (a : Int) 3000 ≤ 3000 := by omega
theorem GtM.next {l : List Tu} {w wr wr' : World} {k : Nat} {N : Int} (h : GtM l w k N wr) (f : Fp Non wr wr') (hk : k < l.length) :
  GtM l w (k + 1) (N + min (l[k].dir.length : Int) 3000) wr' := by
 have hN : 0 ≤ N := by have := h.lo; omega
 have m1 := min3 l[k].dir.length
 refine ⟨h.fp.then f, by have := h.lo; omega, fun j hj hjk => ?_⟩
 rcases Nat.lt_or_eq_of_le (show j ≤ k by omega) with e | e
 ·have := h.eq j hj e
  omega
 ·subst e
  omega
theorem GtM.few {l : List Tu} {w wr : World} {k : Nat} {N : Int} (h : GtM l w k N wr) (hk : k = l.length) (hN : N < 3000) : l.length ≤ 3000 ∧ ∀ x ∈ l, x.dir.length ≤ 3000 := by
 refine ⟨by have := h.lo; omega, fun x hx => ?_⟩
 obtain ⟨j, hj, rfl⟩ := List.getElem_of_mem hx
 have := h.eq j hj (by omega)
 omega
structure Gfew (s : St) : Prop where
 turns : s.turns.length ≤ 3000 ∧ ∀ x ∈ s.turns, x.dir.length ≤ 3000
 nodes : s.nodes.length ≤ 1667 ∧ ∀ x ∈ s.nodes, x.path.length ≤ 5000 ∧ x.data.length ≤ 5000
set_option maxHeartbeats 6000000 in
theorem GreatS_c (v : Value) (s : St) (w : World) (hv : Sto w v s) (hn : s.nodes.length ≤ 140737488355328) (ht : s.turns.length ≤ 140737488355328) :
  Calls Tryz.prog 15 #[v] w fun e w' => ∃ g : Bool, e = .returned (.bool g) ∧ (g = false → Gfew s) ∧ Fp Non w w' := by
 obtain ⟨vn, vt, rfl, h1, h2⟩ := hv.ex
 obtain ⟨at_, ct, rfl⟩ := h2.shape
 obtain ⟨n, hnn⟩ : ∃ n, n = s.turns.length := ⟨_, rfl⟩
 have hbx := heap_alloc_new w (.cells #[vn, .slice at_ s.turns.length ct] 25)
 have hfa := fp_alloc w (.cells #[vn, .slice at_ s.turns.length ct] 25)
 have hgr := fun w' (f : Fp Non w w') => Great_c vn s.nodes w' (h1.non f) hn
 have h2' := h2
 rw [← hnn] at h2' hbx hfa
 have HX := Lib.hid (And.intro hnn (And.intro h2' (And.intro hgr (And.intro hbx hfa))))
 rw [← hnn]
 have hnb : n ≤ 140737488355328 := by omega
 clear h1 h2 h2' hn ht hnn hv hbx hfa hgr
 go_enter Tryz.func15, Tryz.ntmps15
 go_wp2_with fail
 go_loopw [3, 4] (fun m i wr => ∃ k : Nat, k ≤ n ∧ i = .int .i64 k ∧ ∃ N : Int, m = .int .i64 N ∧ (0 ≤ N ∧ N ≤ 140737488355328) ∧ Hid (GtM s.turns w k N wr ∧ wr.heap[w.heap.size]? = some (.cells #[vn, .slice at_ n ct] 25 (0, 0)))) (fun _ i _ => n - (RowKit.intOf i).toNat)
 case atStart => exact ⟨0, Nat.zero_le _, rfl, (n : Int), by go_num, by omega, ⟨HX.out.2.2.2.2, by rw [HX.out.1]; exact Int.le_refl _, fun j _ h => absurd h (Nat.not_lt_zero j)⟩, HX.out.2.2.2.1⟩
 case round =>
  obtain ⟨k, hk, rfl, N, rfl, hN, hR⟩ := hrel
  rename_i wr _
  have r0 : wr.cell? ⟨w.heap.size, 0, none⟩ = some vn := by rw [cell_of_row _ _ _ _ _ _ hR.out.2]; rfl
  have r1 : wr.cell? ⟨w.heap.size, 1, none⟩ = some (.slice at_ n ct) := by rw [cell_of_row _ _ _ _ _ _ hR.out.2]; rfl
  by_cases hlt : k < n
  ·have hkl : k < s.turns.length := by rw [← HX.out.1]; exact hlt
   have q3 : ((k : Int) < (n : Int)) = True := eq_true (by omega)
   have q4 : (k < n) = True := eq_true hlt
   by_cases hN5 : N < 3000
   ·have q5 : (N < 3000) = True := eq_true hN5
    obtain ⟨g, o, cap', e, _, _, _, hcell⟩ := (HX.out.2.1.non hR.out.1.fp).at (by omega)
    injection e with e1 e2 e3
    subst e1 e3
    have hnd := hcell k hkl
    clear hcell e2
    have hnx := fun wr' f => hR.out.1.next (wr' := wr') f hkl
    have HNX := Lib.hid hnx
    have HL := Lib.hid (And.intro hlt hN5)
    clear hnx hlt hN5
    generalize s.turns[k] = x at *
    clear hkl
    have c0 := hnd.c0
    unfold strV at c0
    have HB := Lib.hid (min3 x.dir.length)
    clear hnd
    go_wp2
    have hb := HB.out
    have hj := HL.out
    go_roundw
    case rel => exact ⟨k + 1, by omega, by go_num, _, rfl, ⟨by omega, by omega⟩, HNX.out _ (Fp.refl _ _), hR.out.2⟩
    case measure => simp [RowKit.intOf]; omega
   ·have q5 : (N < 3000) = False := eq_false hN5
    have q6 : ((3000 : Int) ≤ N) = True := eq_true (by omega)
    clear hN5 hkl hlt
    go_wp2
    go_ret
    exact ⟨true, rfl, fun h => by simp at h, hR.out.1.fp⟩
  ·have hke : k = n := by omega
   subst hke
   have q3 : ((k : Int) < (k : Int)) = False := eq_false (by omega)
   by_cases hN5 : N < 3000
   ·have q6 : ((3000 : Int) ≤ N) = False := eq_false (by omega)
    have hfw := hR.out.1.few HX.out.1 hN5
    have HFW := Lib.hid hfw
    clear hfw hN5 hlt hk
    go_wp2_with fail
    refine (HX.out.2.2.1 _ hR.out.1.fp).mono ?_
    rintro e w1 ⟨g, rfl, hg, hf⟩
    have HG := Lib.hid (And.intro hg (hR.out.1.fp.then hf))
    clear hg hf r0 r1
    go_wp2
    go_ret
    exact ⟨g, rfl, fun h => ⟨HFW.out, HG.out.1 h⟩, HG.out.2⟩
   ·have q6 : ((3000 : Int) ≤ N) = True := eq_true (by omega)
    clear hN5 hlt hk
    go_wp2
    go_ret
    exact ⟨true, rfl, fun h => by simp at h, hR.out.1.fp⟩
end Go.Proofs.YtphoglepiegeiaaGreatDoor
