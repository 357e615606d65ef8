/- great: is it too much? (gen_bl.py, out of owned/XOl) -/
import Derived.Test.YtajgjhkienhpjaaBs
namespace Go.Proofs.Ytajgjhkienhpjaa
set_option maxRecDepth 20000
set_option linter.unusedVariables false
set_option linter.unusedSimpArgs false
open Go.RowKit Pm

/-- Not too much. -/
structure Few (l : List Mt) : Prop where
  nl : l.length ≤ 3000
  lp : ∀ x ∈ l, x.d.length ≤ 3000
theorem Few.szs {l : List Mt} (h : Few l) : SzM l := ⟨by have := h.nl; omega, fun x hx => by have := h.lp x hx; omega⟩
structure GrA (l : List Mt) (w : World) (k : Nat) (N : Int) (wr : World) : Prop where
  fp : Fp Non w wr
  eq : ∀ j (h : j < l.length), j < k → min (l[j].d.length : Int) 3000 ≤ N
theorem min3 (a : Nat) : (0 : Int) ≤ min (a : Int) 3000 ∧ min (a : Int) 3000 ≤ 3000 := by omega
theorem GrA.next {l : List Mt} {w wr wr' : World} {k : Nat} {N : Int} (h : GrA l w k N wr) (f : Fp Non wr wr') (h0 : 0 ≤ N) (hk : k < l.length) : GrA l w (k + 1) (N + min (l[k].d.length : Int) 3000) wr' := by
  have m1 := min3 l[k].d.length
  refine ⟨h.fp.then f, fun j hj hjk => ?_⟩
  rcases Nat.lt_or_eq_of_le (show j ≤ k by omega) with e | e
  · have := h.eq j hj e; omega
  · subst e; omega

set_option maxHeartbeats 8000000 in
theorem Great_c (v : Value) (l : List Mt) (w : World) (hv : NsM w v l) (hn : l.length ≤ 140737488355328) :
    Calls Try.prog 9 #[v] w fun e w' => ∃ g : Bool, e = .returned (.bool g) ∧ (g = false → Few l) ∧ Fp Non w w' := by
  obtain ⟨ao, cap, rfl⟩ := hv.shape
  obtain ⟨n, hnn⟩ : ∃ n, n = l.length := ⟨_, rfl⟩
  rw [← hnn] at hn ⊢
  have HX := Lib.hid (And.intro hnn hv)
  clear hv hnn
  go_enter Try.func9, Try.ntmps9
  go_wp2_with fail
  go_loopw [3, 4] (fun x i wr => ∃ k : Nat, k ≤ n ∧ i = .int .i64 k ∧ ∃ N : Int, x = .int .i64 N ∧ ((n : Int) ≤ N) ∧ (N ≤ 562949953421312) ∧ Hid (GrA l w k N wr)) (fun _ i _ => n - (RowKit.intOf i).toNat)
  case atStart => exact ⟨0, Nat.zero_le _, rfl, (n : Int), rfl, Int.le_refl _, by omega, ⟨Fp.refl _ _, fun j _ h => absurd h (Nat.not_lt_zero j)⟩⟩
  case round =>
    obtain ⟨k, hk, rfl, N, rfl, hN, hNN, hR⟩ := hrel
    rename_i wr _
    by_cases hlt : k < n ∧ N < 3000
    · obtain ⟨hlt, hN3⟩ := hlt
      have hkl : k < l.length := by rw [← HX.out.1]; exact hlt
      have q3 : ((k : Int) < (n : Int)) = True := eq_true (by omega)
      have q4 : (k < n) = True := eq_true hlt
      have q5 : (N < 3000) = True := eq_true hN3
      obtain ⟨g, o, cap', e, _, _, _, hcell⟩ := HX.out.2.at (by omega)
      rw [← HX.out.1] at e
      injection e with e1 e2 e3
      subst e1 e3
      have hnd := (hcell k hkl).keep hR.out.fp (fun h => h)
      have hnx := fun wr' f => hR.out.next (wr' := wr') f (by omega) hkl
      have HNX := Lib.hid hnx
      have HL := Lib.hid (And.intro hlt (And.intro hN3 hN))
      have hb3 := min3 l[k].d.length
      have hnb : n < 3000 := by omega
      have hN0 : 0 ≤ N := by omega
      clear hnx hlt hcell hN3 hN
      obtain ⟨x, hx⟩ : ∃ x, x = l[k] := ⟨_, rfl⟩
      simp only [← hx] at hnd HNX hb3
      clear hx hkl
      obtain ⟨xd, xg, xe, xt⟩ := x
      have c0 := hnd.c0
      unfold strV at c0
      simp only at c0 HNX hb3
      have HB3 := Lib.hid hb3
      clear hnd hb3
      go_wp2_with fail
      try go_quiet (fail)
      go_wp2_with fail
      have hb := HB3.out
      have hj := HL.out
      refine ⟨⟨k + 1, by omega, by go_num, _, rfl, by omega, by omega, HNX.out _ (by first | exact Fp.refl _ _ | exact (Fp.refl _ _).drew | exact (Fp.refl _ _).drewN _)⟩, ?_⟩
      simp [RowKit.intOf]; omega
    · have HE := Lib.hid (And.intro hlt (And.intro hk hN))
      have hfin : N < 3000 → Few l := fun h1 => by
        have hk' : k = n := by
          have := HE.out
          rcases Nat.lt_or_eq_of_le this.2.1 with h | h
          · exact absurd ⟨h, h1⟩ this.1
          · exact h
        have := HX.out.1
        refine ⟨by omega, fun x hx => ?_⟩
        obtain ⟨i, hi, rfl⟩ := List.getElem_of_mem hx
        have := hR.out.eq i hi (by omega)
        omega
      have HFIN := Lib.hid hfin
      clear hfin
      by_cases hk3 : k < n
      · have hN3 : ¬ N < 3000 := fun h => hlt ⟨hk3, h⟩
        have q4 : ((k : Int) < (n : Int)) = True := eq_true (by omega)
        have q5 : (k < n) = True := eq_true hk3
        have q6 : (N < 3000) = False := eq_false hN3
        have p6 : ((3000 : Int) ≤ N) = True := eq_true (by omega)
        clear hk3 hN3 hlt hk
        go_wp2
        go_ret
        exact ⟨true, rfl, fun h => by simp at h, hR.out.fp⟩
      · have q4 : ((k : Int) < (n : Int)) = False := eq_false (by omega)
        have q5 : (k < n) = False := eq_false hk3
        clear hk3 hlt hk
        by_cases hN3 : N < 3000
        · have q6 : (N < 3000) = True := eq_true hN3
          have p6 : ((3000 : Int) ≤ N) = False := eq_false (by omega)
          have HFW := Lib.hid (HFIN.out hN3)
          clear hN3
          go_wp2
          go_ret
          exact ⟨false, rfl, fun _ => HFW.out, hR.out.fp⟩
        · have q6 : (N < 3000) = False := eq_false hN3
          have p6 : ((3000 : Int) ≤ N) = True := eq_true (by omega)
          clear hN3
          go_wp2
          go_ret
          exact ⟨true, rfl, fun h => by simp at h, hR.out.fp⟩
end Go.Proofs.Ytajgjhkienhpjaa
