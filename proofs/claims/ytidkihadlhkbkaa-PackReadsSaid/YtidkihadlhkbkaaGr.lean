/- Is it too much? -/
import Derived.Test.YtidkihadlhkbkaaIu
namespace Go.Proofs.Ytidkihadlhkbkaa
open Go.RowKit Pm

def gsz (x : It) : Nat := x.s.length + x.ps.length + szs x.ps
def tot (l : List It) : Nat := (l.map gsz).sum
theorem tot_take_succ (l : List It) (i : Nat) (h : i < l.length) : tot (l.take (i + 1)) = tot (l.take i) + gsz l[i] := by
  rw [List.take_succ_eq_append_getElem h]; unfold tot; rw [List.map_append, List.sum_append]; simp

set_option maxHeartbeats 2000000 in
theorem Great_c (lo : Nat) (v : Value) (l : List It) (w : World) (hl : Its2 w lo v l) :
    Calls Try.prog 11 #[v] w fun e w' => ∃ g : Bool, e = .returned (.bool g) ∧ (g = false → l.length + tot l < 20000) ∧ Fp Non w w' := by
  obtain ⟨ao, cap, rfl, h1, h2, h3⟩ := hl.its.ex
  unfold maxLen at h2
  have h2' : cap ≤ 9223372036854775807 := by omega
  have HL := Lib.hid hl; clear hl h2
  go_enter Try.func11, Try.ntmps11
  go_wp2_with fail
  go_loopw [3, 4, 5] (fun n i _ wr => ∃ k N : Nat, k ≤ l.length ∧ i = .int .i64 k ∧ n = .int .i64 N ∧ Hid (N < 20000 → N = l.length + tot (l.take k)) ∧ Fp Non w wr) (fun _ i _ _ => l.length - (intOf i).toNat)
  case atStart => exact ⟨0, l.length, by omega, rfl, rfl, fun _ => by simp [tot], Fp.refl _ _⟩
  case round =>
    obtain ⟨k, N, hk, rfl, rfl, hN, hf⟩ := hrel
    by_cases hkl : k < l.length
    · have g1 : ((k : Int) < (l.length : Int)) = True := eq_true (by omega)
      have g2 : (k < l.length) = True := eq_true hkl
      by_cases hN2 : N < 20000
      · have g3 : ((N : Int) < 20000) = True := eq_true (by omega)
        have hl' := HL.out.keep hf (fun _ h => h.elim)
        rcases h3 with h0 | ⟨g, o, rfl, hg, hc⟩
        · omega
        have hit := (hc k hkl).keep hf (fun _ h => h.elim) hg
        have hpl := HL.out.len l[k] (List.getElem_mem hkl)
        have hts := tot_take_succ l k hkl
        generalize hx : l[k] = x at hit hpl hts
        have c2 := hit.c2
        have c3 := hit.c3
        have hss := hit.ss
        have hlow := hit.low
        have hNl : N = l.length + tot (l.take k) := hN.out hN2
        have HK := Lib.hid (And.intro hts (And.intro hNl hx))
        have HC := Lib.hid hc; clear hts hNl hx hit hl' hN hc
        obtain ⟨aL, capL, eL, hL1, hL2, hL3⟩ := hss.ex
        rw [eL] at c3
        unfold maxLen at hL2
        have HS := Lib.hid (And.intro hss (And.intro hlow eL)); clear hss hlow eL
        go_wp2_with fail
        go_quiet (fail)
        go_wp2_with fail
        case inl h =>
          have HS2 := Lib.hid h; clear h
          go_loopw [3, 5] (fun n kk wr2 => ∃ q N2 : Nat, q ≤ x.ps.length ∧ kk = .int .i64 q ∧ n = .int .i64 N2 ∧ Hid (N2 < 20000 → x.s.length < 20000 ∧ N2 = N + x.s.length + x.ps.length + szs (x.ps.take q)) ∧ Fp Non w wr2) (fun _ kk _ => x.ps.length - (intOf kk).toNat)
          case atStart => exact ⟨0, N + 20000 + x.ps.length, Nat.zero_le _, rfl, by congr 1, fun h => by have := HS2.out; simp [szs]; omega, by first | exact hf.drewN _ | exact hf⟩
          case round =>
            obtain ⟨q, N2, hq, rfl, rfl, hN3, hf2⟩ := hrel
            rename_i wr2 _
            have hit2 := (HC.out k hkl).keep hf2 (fun _ h => h.elim) hg
            rw [HK.out.2.2] at hit2
            have d3 := hit2.c3
            rw [HS.out.2.2] at d3
            by_cases hqn : q < x.ps.length
            · have q1 : ((q : Int) < (x.ps.length : Int)) = True := eq_true (by omega)
              have q2 : (q < x.ps.length) = True := eq_true hqn
              by_cases hN4 : N2 < 20000
              · have q3 : ((N2 : Int) < 20000) = True := eq_true (by omega)
                have hss2 := hit2.ss
                rw [HS.out.2.2] at hss2
                obtain ⟨ao2, cap2, e2, _, _, h5⟩ := hss2.ex
                injection e2 with e3 _ e4
                subst e3 e4
                rcases h5 with h5 | ⟨g2, o2, rfl, hg2, hc2⟩
                · omega
                have hcq := hc2 q hqn
                have hst := szs_take_succ x.ps q hqn
                generalize hp : x.ps[q] = p at hcq hst
                have HST := Lib.hid (And.intro hst (And.intro hN3.out hp)); clear hst hN3 hp hc2 hss2 hit2
                go_wp2
                go_roundw
                case rel =>
                  by_cases hp : 20000 < p.length
                  · have hp' : (20000 : Int) < (p.length : Int) := by omega
                    exact ⟨q + 1, N2 + 20000, by omega, by go_num, by rw [if_pos hp']; congr 1, fun h => by omega, hf2⟩
                  · have hp' : ¬ (20000 : Int) < (p.length : Int) := by omega
                    exact ⟨q + 1, N2 + p.length, by omega, by go_num, by rw [if_neg hp']; congr 1, fun h => by have := HST.out.2.1 hN4; have := HST.out.1; omega, hf2⟩
                case measure => simp [intOf]; omega
              · have q3 : ((N2 : Int) < 20000) = False := eq_false (by omega)
                have HX := Lib.hid hN4; clear hN4 hit2 hN3
                go_wp2
                go_roundw
                case rel => exact ⟨k + 1, N2, by omega, by go_num, rfl, fun h => absurd h HX.out, hf2⟩
                case measure => simp [intOf]; omega
            · have q1 : ((q : Int) < (x.ps.length : Int)) = False := eq_false (by omega)
              have q2 : (q < x.ps.length) = False := eq_false hqn
              have hqe : q = x.ps.length := by omega
              have hN5 : N2 < 20000 → N2 = l.length + tot (l.take (k + 1)) := by
                intro h
                have h6 := (hN3.out h).2
                rw [hqe, List.take_length] at h6
                rw [HK.out.1]
                have := HK.out.2.1
                unfold gsz; omega
              have HX := Lib.hid hN5; clear hN5 hit2 hN3 hqn hqe hq
              go_wp2
              go_roundw
              case rel => exact ⟨k + 1, N2, by omega, by go_num, rfl, HX.out, hf2⟩
              case measure => simp [intOf]; omega
        case inr h =>
          have HS2 := Lib.hid h; clear h
          go_loopw [3, 5] (fun n kk wr2 => ∃ q N2 : Nat, q ≤ x.ps.length ∧ kk = .int .i64 q ∧ n = .int .i64 N2 ∧ Hid (N2 < 20000 → x.s.length < 20000 ∧ N2 = N + x.s.length + x.ps.length + szs (x.ps.take q)) ∧ Fp Non w wr2) (fun _ kk _ => x.ps.length - (intOf kk).toNat)
          case atStart => exact ⟨0, N + x.s.length + x.ps.length, Nat.zero_le _, rfl, by congr 1, fun h => by have := HS2.out; simp [szs]; omega, by first | exact hf.drewN _ | exact hf⟩
          case round =>
            obtain ⟨q, N2, hq, rfl, rfl, hN3, hf2⟩ := hrel
            rename_i wr2 _
            have hit2 := (HC.out k hkl).keep hf2 (fun _ h => h.elim) hg
            rw [HK.out.2.2] at hit2
            have d3 := hit2.c3
            rw [HS.out.2.2] at d3
            by_cases hqn : q < x.ps.length
            · have q1 : ((q : Int) < (x.ps.length : Int)) = True := eq_true (by omega)
              have q2 : (q < x.ps.length) = True := eq_true hqn
              by_cases hN4 : N2 < 20000
              · have q3 : ((N2 : Int) < 20000) = True := eq_true (by omega)
                have hss2 := hit2.ss
                rw [HS.out.2.2] at hss2
                obtain ⟨ao2, cap2, e2, _, _, h5⟩ := hss2.ex
                injection e2 with e3 _ e4
                subst e3 e4
                rcases h5 with h5 | ⟨g2, o2, rfl, hg2, hc2⟩
                · omega
                have hcq := hc2 q hqn
                have hst := szs_take_succ x.ps q hqn
                generalize hp : x.ps[q] = p at hcq hst
                have HST := Lib.hid (And.intro hst (And.intro hN3.out hp)); clear hst hN3 hp hc2 hss2 hit2
                go_wp2
                go_roundw
                case rel =>
                  by_cases hp : 20000 < p.length
                  · have hp' : (20000 : Int) < (p.length : Int) := by omega
                    exact ⟨q + 1, N2 + 20000, by omega, by go_num, by rw [if_pos hp']; congr 1, fun h => by omega, hf2⟩
                  · have hp' : ¬ (20000 : Int) < (p.length : Int) := by omega
                    exact ⟨q + 1, N2 + p.length, by omega, by go_num, by rw [if_neg hp']; congr 1, fun h => by have := HST.out.2.1 hN4; have := HST.out.1; omega, hf2⟩
                case measure => simp [intOf]; omega
              · have q3 : ((N2 : Int) < 20000) = False := eq_false (by omega)
                have HX := Lib.hid hN4; clear hN4 hit2 hN3
                go_wp2
                go_roundw
                case rel => exact ⟨k + 1, N2, by omega, by go_num, rfl, fun h => absurd h HX.out, hf2⟩
                case measure => simp [intOf]; omega
            · have q1 : ((q : Int) < (x.ps.length : Int)) = False := eq_false (by omega)
              have q2 : (q < x.ps.length) = False := eq_false hqn
              have hqe : q = x.ps.length := by omega
              have hN5 : N2 < 20000 → N2 = l.length + tot (l.take (k + 1)) := by
                intro h
                have h6 := (hN3.out h).2
                rw [hqe, List.take_length] at h6
                rw [HK.out.1]
                have := HK.out.2.1
                unfold gsz; omega
              have HX := Lib.hid hN5; clear hN5 hit2 hN3 hqn hqe hq
              go_wp2
              go_roundw
              case rel => exact ⟨k + 1, N2, by omega, by go_num, rfl, HX.out, hf2⟩
              case measure => simp [intOf]; omega
      · have g3 : ((N : Int) < 20000) = False := eq_false (by omega)
        have hge : (20000 : Int) ≤ (N : Int) := by omega
        have HGE := Lib.hid hge
        clear hkl hk h1 h2' hge hN2
        go_wp2
        go_ret
        exact ⟨_, rfl, fun h => absurd HGE.out (by simpa using h), hf⟩
    · have g1 : ((k : Int) < (l.length : Int)) = False := eq_false (by omega)
      have g2 : (k < l.length) = False := eq_false hkl
      have hkn : k = l.length := by omega
      have hN' : N < 20000 → N = l.length + tot l := fun h => by have := hN.out h; rwa [hkn, List.take_length] at this
      have HN := Lib.hid hN'; clear hN' hkl hk hkn
      go_wp2
      go_ret
      refine ⟨_, rfl, fun h => ?_, hf⟩
      have h5 : ¬ (20000 : Int) ≤ (N : Int) := by simpa using h
      have := HN.out (by omega)
      omega
end Go.Proofs.Ytidkihadlhkbkaa
