/- Great (gen_zl.py) -/
import Derived.Test.YthgcmkgfmmjmaaaZf
namespace Go.Proofs.Ythgcmkgfmmjmaaa
set_option maxRecDepth 20000
set_option linter.unusedVariables false
set_option linter.unusedSimpArgs false
open Go.RowKit Pm


structure Gr9 (l : List O9) (w : World) (k : Nat) (N : Int) (wr : World) : Prop where
  fp : Fp Non w wr
  lo : (l.length : Int) ≤ N
  eq : ∀ j (h : j < l.length), j < k → (min (l[j].x.p.length : Int) 4000 ≤ N ∧ min (l[j].p.length : Int) 4000 ≤ N)
theorem min4 (a : Nat) : (0 : Int) ≤ min (a : Int) 4000 ∧ min (a : Int) 4000 ≤ 4000 := by omega
theorem Gr9.next {l : List O9} {w wr wr' : World} {k : Nat} {N : Int} (h : Gr9 l w k N wr) (f : Fp Non wr wr') (hk : k < l.length) :
    Gr9 l w (k + 1) (N + min (l[k].x.p.length : Int) 4000 + min (l[k].p.length : Int) 4000) wr' := by
  have hN : 0 ≤ N := by have := h.lo; omega
  have m1 := min4 l[k].x.p.length
  have m2 := min4 l[k].p.length
  refine ⟨h.fp.then f, by have := h.lo; omega, fun j hj hjk => ?_⟩
  rcases Nat.lt_or_eq_of_le (show j ≤ k by omega) with e | e
  · have := h.eq j hj e
    omega
  · subst e
    omega
def Few9 (l : List O9) : Prop := l.length ≤ 200 ∧ ∀ o ∈ l, o.x.p.length ≤ 4000 ∧ o.p.length ≤ 4000
theorem Gr9.few {l : List O9} {w wr : World} {k : Nat} {N : Int} (h : Gr9 l w k N wr) (hk : k = l.length) (hN : N < 4000) (hl : l.length ≤ 200) : Few9 l := by
  refine ⟨hl, fun x hx => ?_⟩
  obtain ⟨j, hj, rfl⟩ := List.getElem_of_mem hx
  have := h.eq j hj (by omega)
  omega

set_option maxHeartbeats 6000000 in
theorem Great_c (v : Value) (l : List O9) (w : World) (hv : Ops w v l) :
    Calls Try.prog 11 #[v] w fun e w' => ∃ g : Bool, e = .returned (.bool g) ∧ (g = false → Few9 l) ∧ Fp Non w w' := by
  obtain ⟨ao, cap, rfl⟩ := hv.shape
  obtain ⟨n, hnn⟩ : ∃ n, n = l.length := ⟨_, rfl⟩
  have HX := Lib.hid (And.intro hnn hv)
  rw [← hnn]
  clear hv hnn
  go_enter Try.func11, Try.ntmps11
  go_wp2_with fail
  go_loopw [3, 4] (fun m i wr => ∃ k : Nat, k ≤ n ∧ i = .int .i64 k ∧ ∃ N : Int, m = .int .i64 N ∧ ((n : Int) ≤ N) ∧ Hid (Gr9 l w k N wr)) (fun _ i _ => n - (RowKit.intOf i).toNat)
  case atStart => exact ⟨0, Nat.zero_le _, rfl, (n : Int), rfl, by omega, ⟨Fp.refl _ _, by rw [HX.out.1]; exact Int.le_refl _, fun j _ h => absurd h (Nat.not_lt_zero j)⟩⟩
  case round =>
    obtain ⟨k, hk, rfl, N, rfl, hN, hR⟩ := hrel
    rename_i wr _
    by_cases hlt : k < n
    · have hkl : k < l.length := by rw [← HX.out.1]; exact hlt
      have q3 : ((k : Int) < (n : Int)) = True := eq_true (by omega)
      have q4 : (k < n) = True := eq_true hlt
      by_cases hN5 : N < 4000
      · have q5 : (N < 4000) = True := eq_true hN5
        obtain ⟨g, o, cap', e, hcell⟩ := HX.out.2.at (by omega)
        injection e with e1 e2 e3
        subst e1 e3
        have hnd := (hcell k hkl).keep hR.out.fp (fun h => h)
        have hnx := fun wr' f => hR.out.next (wr' := wr') f hkl
        have HNX := Lib.hid hnx
        have HL := Lib.hid (And.intro hlt hN5)
        have hnb : n < 4000 := by omega
        have hN6 : 0 ≤ N ∧ N ≤ 4000 := by omega
        clear hnx hlt hN5 hcell
        generalize l[k] = x at *
        clear hkl
        have c3 := hnd.c3; have c6 := hnd.c6
        unfold strV at c3 c6
        have HB := Lib.hid (And.intro (min4 x.x.p.length) (min4 x.p.length))
        clear hnd
        go_wp2_with fail
        go_quiet (fail)
        go_wp2_with fail
        have hb := HB.out
        have hj := HL.out
        refine ⟨⟨k + 1, by omega, by go_num, _, rfl, by omega, HNX.out _ ((Fp.refl _ _).drewN _)⟩, ?_⟩
        simp [RowKit.intOf]; omega
      · have q5 : (N < 4000) = False := eq_false hN5
        have q6 : ((4000 : Int) ≤ N) = True := eq_true (by omega)
        clear hN5 hkl hlt
        go_wp2
        go_ret
        exact ⟨true, rfl, fun h => by simp at h, hR.out.fp⟩
    · have hke : k = n := by omega
      subst hke
      have q3 : ((k : Int) < (k : Int)) = False := eq_false (by omega)
      by_cases hN5 : N < 4000
      · have q6 : ((4000 : Int) ≤ N) = False := eq_false (by omega)
        by_cases h2 : 200 < k
        · have q7 : (200 < k) = True := eq_true h2
          have q8 : ((200 : Int) < (k : Int)) = True := eq_true (by omega)
          clear hN5 hlt hk h2
          go_wp2
          go_ret
          exact ⟨true, rfl, fun h => by simp at h, hR.out.fp⟩
        · have q7 : (200 < k) = False := eq_false h2
          have q8 : ((200 : Int) < (k : Int)) = False := eq_false (by omega)
          have hfw := hR.out.few HX.out.1 hN5 (by have := HX.out.1; omega)
          have HFW := Lib.hid hfw
          clear hfw hN5 hlt hk h2
          go_wp2
          go_ret
          exact ⟨false, rfl, fun _ => HFW.out, hR.out.fp⟩
      · have q6 : ((4000 : Int) ≤ N) = True := eq_true (by omega)
        clear hN5 hlt hk
        go_wp2
        go_ret
        exact ⟨true, rfl, fun h => by simp at h, hR.out.fp⟩
end Go.Proofs.Ythgcmkgfmmjmaaa
