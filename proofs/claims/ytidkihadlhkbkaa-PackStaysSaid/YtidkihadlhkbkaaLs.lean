/- PackStays: the law's walk. -/
import Derived.Test.YtidkihadlhkbkaaGr
namespace Go.Proofs.Ytidkihadlhkbkaa
open Go.RowKit Pm

theorem rNum_stay {s : St} (most : Int) (h : s.2 ≠ 0) : rNum s most = (0, s) := by unfold rNum; rw [if_pos h]
theorem rText_stay {s : St} (h : s.2 ≠ 0) : rText s = ([], s) := by unfold rText; rw [if_pos h]
theorem rTexts_stay {s : St} (h : s.2 ≠ 0) : rTexts s = ([], s) := by unfold rTexts; rw [rNum_stay _ h]; rfl
theorem stEnd_stay {s : St} (h : s.2 ≠ 0) : stEnd s = false := by unfold stEnd; rw [beq_eq_false_iff_ne.2 h]; rfl

theorem Os.zero {lo : Nat} {w : World} {v : Value} (h : Os lo w v []) : ∃ ao cap, v = .slice ao 0 cap := by
  rcases h.2 with ⟨hv, _⟩ | ⟨g, cap, cur, hv, _⟩
  · exact ⟨none, 0, hv⟩
  · exact ⟨_, _, hv⟩

theorem rNum_two (s : St) (most : Int) (h0 : s.2 = 0) : ((rNum s most).2.2 = 0 ∧ (rNum s most).2.1.length < s.1.length) ∨ (((rNum s most).2.2 = 3 ∨ (rNum s most).2.2 = 21) ∧ (rNum s most).2.1 = []) := by
  unfold rNum; rw [if_neg (by omega)]; dsimp only
  by_cases h : (nx s.1 most).1 = 0
  · exact .inl ⟨h, nx_len h⟩
  · right; have := nx_err h; exact ⟨this.1, by rw [this.2]⟩

set_option maxHeartbeats 4000000 in
theorem PackStays_f (v vl : Value) (lb : Bs) (l : List It) (w : World) (hv : Sl w v lb) (hb : ∀ k, v.ownBlock = some k → k < w.heap.size) (hl : Its2 w w.heap.size vl l) :
    Calls Try.prog 7 #[v, vl] w fun e w' => e = .returned (.bool true) ∧ Fp Non w w' := by
  obtain ⟨ao, cap, rfl, _, _, _⟩ := hv.ex
  obtain ⟨aol, capl, rfl, _, _, _⟩ := hl.its.ex
  have HV := Lib.hid (And.intro hv (And.intro hb hl)); clear hv hb hl
  go_enter Try.func7, Try.ntmps7
  go_wp2_with fail
  refine (head_c w).mono ?_
  rintro e w1 ⟨rfl, hf⟩
  have hs1 := hf.size
  have hv1 := HV.out.1.keep hf (fun _ _ h => h)
  have hl1 := HV.out.2.2.keep hf (fun _ h => h.elim)
  have HF := Lib.hid hf; clear hf
  have HV1 := Lib.hid (And.intro hv1 hl1); clear hv1 hl1
  go_wp2_with fail
  refine (Great_c _ _ _ _ HV1.out.2).mono ?_
  rintro e w2 ⟨g, rfl, hg, hf2⟩
  have hs2 := hf2.size
  have HG := Lib.hid (And.intro hg hf2); clear hg hf2
  cases g with
  | true =>
    go_wp2
    go_ret
    exact ⟨rfl, HF.out.then HG.out.2⟩
  | false =>
    by_cases hlb : 20000 < lb.length
    · have r1 : (20000 < lb.length) = True := eq_true hlb
      have r2 : ((20000 : Int) < (lb.length : Int)) = True := eq_true (by omega)
      clear hlb
      go_wp2
      go_ret
      exact ⟨rfl, HF.out.then HG.out.2⟩
    · have r1 : (20000 < lb.length) = False := eq_false hlb
      have r2 : ((20000 : Int) < (lb.length : Int)) = False := eq_false (by omega)
      have hlb' : lb.length ≤ 20000 := by omega
      have HLB := Lib.hid hlb'
      have hll : l.length ≤ 20000 := by have := HG.out.1 rfl; omega
      clear hlb
      have hv2 := HV1.out.1.keep HG.out.2 (fun _ _ h => h)
      have HV2 := Lib.hid hv2; clear hv2
      go_wp2_with fail
      refine (New_c w2.heap.size _ _ _ HV2.out (Nat.le_refl _)).mono ?_
      rintro e w3 ⟨br, rfl, hbr, hr, hf3⟩
      have hs3 := hf3.size
      have hfw : Fp Non w w3 := (HF.out.then HG.out.2).then hf3
      have HR := Lib.hid (And.intro hr hfw); clear hr hfw hf3
      go_wp2_with fail
      go_loopw [7] (fun i wr => ∃ k : Nat, k ≤ lb.length + 1 ∧ i = .int .i64 k ∧ ∃ s, Hid (Rr w2.heap.size br s wr ∧ Fp Non w wr ∧ (s.2 = 0 → s.1.length + k ≤ lb.length) ∧ (s.2 = 0 ∨ s.2 = 3 ∨ s.2 = 21) ∧ s.1.length ≤ lb.length)) (fun i _ => lb.length + 1 - (intOf i).toNat)
      case atStart => exact ⟨0, Nat.zero_le _, rfl, (lb, 0), HR.out.1, HR.out.2, fun _ => Nat.le_refl _, .inl rfl, Nat.le_refl _⟩
      case round =>
        obtain ⟨k, hk, rfl, s, hH⟩ := hrel
        by_cases hgo : k ≤ lb.length ∧ s.2 = 0
        · obtain ⟨hkl, hz⟩ := hgo
          have g1 : ((k : Int) ≤ (lb.length : Int)) = True := eq_true (by omega)
          have g2 : (k ≤ lb.length) = True := eq_true hkl
          go_wp2_with fail
          refine (RErr_c _ _ _ _ hH.out.1).mono ?_
          rintro e w4 ⟨rfl, rfl⟩
          rw [hz]
          go_wp2_with fail
          refine (RNum_c _ _ _ _ _ hH.out.1 (by have := hH.out.2.2.2.2; have := HLB.out; omega)).mono ?_
          rintro e w4 ⟨rfl, hr4⟩
          have htw := rNum_two s ((k : Int) % 300) hz
          generalize rNum s ((k : Int) % 300) = x at hr4 htw
          obtain ⟨n, s'⟩ := x
          simp only at hr4 htw
          have hfw : Fp Non w w4 := hH.out.2.1.trans hr4.2 (fun j hj => .inr (by omega))
          have hnew : Rr w2.heap.size br s' w4 ∧ Fp Non w w4 ∧ (s'.2 = 0 → s'.1.length + (k + 1) ≤ lb.length) ∧ (s'.2 = 0 ∨ s'.2 = 3 ∨ s'.2 = 21) ∧ s'.1.length ≤ lb.length := by
            have h1 := hH.out.2.2.1 hz
            refine ⟨hr4.1, hfw, fun h => ?_, ?_, ?_⟩
            · rcases htw with ⟨_, h2⟩ | ⟨h2, _⟩
              · omega
              · rcases h2 with h2 | h2 <;> omega
            · rcases htw with ⟨h2, _⟩ | ⟨h2, _⟩
              · exact .inl h2
              · exact .inr h2
            · rcases htw with ⟨_, h2⟩ | ⟨_, h2⟩
              · omega
              · rw [h2]; exact Nat.zero_le _
          have HNEW := Lib.hid hnew; clear hnew hr4 htw hfw
          go_wp2
          go_roundw
          case rel => exact ⟨k + 1, by omega, by go_num, s', HNEW.out⟩
          case measure => simp [intOf]; omega
        · have hne : s.2 ≠ 0 := by
            intro h
            have := hH.out.2.2.1 h
            exact hgo ⟨by omega, h⟩
          have he : s.2 = 3 ∨ s.2 = 21 := hH.out.2.2.2.1.resolve_left hne
          clear hgo hne
          obtain ⟨sl, er⟩ := s
          simp only at he
          rcases he with rfl | rfl
          · have HNE := Lib.hid (show ((sl, (3 : Int)) : St).2 ≠ 0 by simp)
            by_cases hkl : k ≤ lb.length
            · have g1 : ((k : Int) ≤ (lb.length : Int)) = True := eq_true (by omega)
              have g2 : (k ≤ lb.length) = True := eq_true hkl
              clear hkl hk
              go_wp2_with fail
              refine (RErr_c _ _ _ _ hH.out.1).mono ?_
              rintro e w4 ⟨rfl, rfl⟩
              go_wp2_with fail
              refine (RErr_c _ _ _ _ hH.out.1).mono ?_
              rintro e w4 ⟨rfl, rfl⟩
              go_wp2_with fail
              go_loopw [9, 10, 11, 12] (fun i _ _ _ wr2 => ∃ q : Nat, q ≤ l.length ∧ i = .int .i64 q ∧ Hid (Rr w2.heap.size br (sl, 3) wr2 ∧ Fp Non w wr2)) (fun i _ _ _ _ => l.length - (intOf i).toNat)
              case atStart => exact ⟨0, Nat.zero_le _, rfl, hH.out.1, hH.out.2.1⟩
              case round =>
                obtain ⟨q, hq, rfl, hQ⟩ := hrel
                by_cases hql : q < l.length
                · have q1 : ((q : Int) < (l.length : Int)) = True := eq_true (by omega)
                  have q2 : (q < l.length) = True := eq_true hql
                  have hsl : sl.length ≤ 1000000 := by have h9 : sl.length ≤ lb.length := hH.out.2.2.2.2; have := HLB.out; omega
                  have HSL := Lib.hid hsl; clear hsl
                  go_wp2_with fail
                  refine (RNum_c _ _ _ _ _ hQ.out.1 HSL.out).mono ?_
                  rintro e u1 ⟨rfl, k1⟩
                  rw [rNum_stay _ HNE.out] at k1 ⊢
                  have f1 := hQ.out.2.trans k1.2 (fun j hj => .inr (by omega))
                  have K1 := Lib.hid (And.intro k1.1 f1); clear k1 f1
                  go_wp2_with fail
                  refine (RText_c _ _ _ _ K1.out.1 HSL.out).mono ?_
                  rintro e u2 ⟨rfl, k2⟩
                  rw [rText_stay HNE.out] at k2 ⊢
                  have f2 := K1.out.2.trans k2.2 (fun j hj => .inr (by omega))
                  have K2 := Lib.hid (And.intro k2.1 f2); clear k2 f2
                  go_wp2_with fail
                  refine (RTexts_c _ _ _ _ K2.out.1 HSL.out).mono ?_
                  rintro e u3 ⟨v3, rfl, ho3, k3⟩
                  rw [rTexts_stay HNE.out] at ho3 k3
                  obtain ⟨a3, c3, rfl⟩ := Os.zero ho3
                  have f3 := K2.out.2.trans k3.2 (fun j hj => .inr (by omega))
                  have K3 := Lib.hid (And.intro k3.1 f3); clear k3 f3 ho3
                  go_wp2_with fail
                  refine (RErr_c _ _ _ _ K3.out.1).mono ?_
                  rintro e u4 ⟨rfl, rfl⟩
                  go_wp2_with fail
                  refine (REnd_c _ _ _ _ K3.out.1).mono ?_
                  rintro e u4 ⟨rfl, rfl⟩
                  rw [stEnd_stay HNE.out]
                  go_wp2
                  go_roundw
                  case rel => exact ⟨q + 1, by omega, by go_num, K3.out⟩
                  case measure => simp [intOf]; omega
                · have q1 : ((q : Int) < (l.length : Int)) = False := eq_false (by omega)
                  have q2 : (q < l.length) = False := eq_false hql
                  clear hql hq
                  go_wp2
                  go_ret
                  exact ⟨rfl, hQ.out.2⟩
            · have g1 : ((k : Int) ≤ (lb.length : Int)) = False := eq_false (by omega)
              have g2 : (k ≤ lb.length) = False := eq_false hkl
              clear hkl hk
              go_wp2_with fail
              refine (RErr_c _ _ _ _ hH.out.1).mono ?_
              rintro e w4 ⟨rfl, rfl⟩
              go_wp2_with fail
              go_loopw [9, 10, 11, 12] (fun i _ _ _ wr2 => ∃ q : Nat, q ≤ l.length ∧ i = .int .i64 q ∧ Hid (Rr w2.heap.size br (sl, 3) wr2 ∧ Fp Non w wr2)) (fun i _ _ _ _ => l.length - (intOf i).toNat)
              case atStart => exact ⟨0, Nat.zero_le _, rfl, hH.out.1, hH.out.2.1⟩
              case round =>
                obtain ⟨q, hq, rfl, hQ⟩ := hrel
                by_cases hql : q < l.length
                · have q1 : ((q : Int) < (l.length : Int)) = True := eq_true (by omega)
                  have q2 : (q < l.length) = True := eq_true hql
                  have hsl : sl.length ≤ 1000000 := by have h9 : sl.length ≤ lb.length := hH.out.2.2.2.2; have := HLB.out; omega
                  have HSL := Lib.hid hsl; clear hsl
                  go_wp2_with fail
                  refine (RNum_c _ _ _ _ _ hQ.out.1 HSL.out).mono ?_
                  rintro e u1 ⟨rfl, k1⟩
                  rw [rNum_stay _ HNE.out] at k1 ⊢
                  have f1 := hQ.out.2.trans k1.2 (fun j hj => .inr (by omega))
                  have K1 := Lib.hid (And.intro k1.1 f1); clear k1 f1
                  go_wp2_with fail
                  refine (RText_c _ _ _ _ K1.out.1 HSL.out).mono ?_
                  rintro e u2 ⟨rfl, k2⟩
                  rw [rText_stay HNE.out] at k2 ⊢
                  have f2 := K1.out.2.trans k2.2 (fun j hj => .inr (by omega))
                  have K2 := Lib.hid (And.intro k2.1 f2); clear k2 f2
                  go_wp2_with fail
                  refine (RTexts_c _ _ _ _ K2.out.1 HSL.out).mono ?_
                  rintro e u3 ⟨v3, rfl, ho3, k3⟩
                  rw [rTexts_stay HNE.out] at ho3 k3
                  obtain ⟨a3, c3, rfl⟩ := Os.zero ho3
                  have f3 := K2.out.2.trans k3.2 (fun j hj => .inr (by omega))
                  have K3 := Lib.hid (And.intro k3.1 f3); clear k3 f3 ho3
                  go_wp2_with fail
                  refine (RErr_c _ _ _ _ K3.out.1).mono ?_
                  rintro e u4 ⟨rfl, rfl⟩
                  go_wp2_with fail
                  refine (REnd_c _ _ _ _ K3.out.1).mono ?_
                  rintro e u4 ⟨rfl, rfl⟩
                  rw [stEnd_stay HNE.out]
                  go_wp2
                  go_roundw
                  case rel => exact ⟨q + 1, by omega, by go_num, K3.out⟩
                  case measure => simp [intOf]; omega
                · have q1 : ((q : Int) < (l.length : Int)) = False := eq_false (by omega)
                  have q2 : (q < l.length) = False := eq_false hql
                  clear hql hq
                  go_wp2
                  go_ret
                  exact ⟨rfl, hQ.out.2⟩
          · have HNE := Lib.hid (show ((sl, (21 : Int)) : St).2 ≠ 0 by simp)
            by_cases hkl : k ≤ lb.length
            · have g1 : ((k : Int) ≤ (lb.length : Int)) = True := eq_true (by omega)
              have g2 : (k ≤ lb.length) = True := eq_true hkl
              clear hkl hk
              go_wp2_with fail
              refine (RErr_c _ _ _ _ hH.out.1).mono ?_
              rintro e w4 ⟨rfl, rfl⟩
              go_wp2_with fail
              refine (RErr_c _ _ _ _ hH.out.1).mono ?_
              rintro e w4 ⟨rfl, rfl⟩
              go_wp2_with fail
              go_loopw [9, 10, 11, 12] (fun i _ _ _ wr2 => ∃ q : Nat, q ≤ l.length ∧ i = .int .i64 q ∧ Hid (Rr w2.heap.size br (sl, 21) wr2 ∧ Fp Non w wr2)) (fun i _ _ _ _ => l.length - (intOf i).toNat)
              case atStart => exact ⟨0, Nat.zero_le _, rfl, hH.out.1, hH.out.2.1⟩
              case round =>
                obtain ⟨q, hq, rfl, hQ⟩ := hrel
                by_cases hql : q < l.length
                · have q1 : ((q : Int) < (l.length : Int)) = True := eq_true (by omega)
                  have q2 : (q < l.length) = True := eq_true hql
                  have hsl : sl.length ≤ 1000000 := by have h9 : sl.length ≤ lb.length := hH.out.2.2.2.2; have := HLB.out; omega
                  have HSL := Lib.hid hsl; clear hsl
                  go_wp2_with fail
                  refine (RNum_c _ _ _ _ _ hQ.out.1 HSL.out).mono ?_
                  rintro e u1 ⟨rfl, k1⟩
                  rw [rNum_stay _ HNE.out] at k1 ⊢
                  have f1 := hQ.out.2.trans k1.2 (fun j hj => .inr (by omega))
                  have K1 := Lib.hid (And.intro k1.1 f1); clear k1 f1
                  go_wp2_with fail
                  refine (RText_c _ _ _ _ K1.out.1 HSL.out).mono ?_
                  rintro e u2 ⟨rfl, k2⟩
                  rw [rText_stay HNE.out] at k2 ⊢
                  have f2 := K1.out.2.trans k2.2 (fun j hj => .inr (by omega))
                  have K2 := Lib.hid (And.intro k2.1 f2); clear k2 f2
                  go_wp2_with fail
                  refine (RTexts_c _ _ _ _ K2.out.1 HSL.out).mono ?_
                  rintro e u3 ⟨v3, rfl, ho3, k3⟩
                  rw [rTexts_stay HNE.out] at ho3 k3
                  obtain ⟨a3, c3, rfl⟩ := Os.zero ho3
                  have f3 := K2.out.2.trans k3.2 (fun j hj => .inr (by omega))
                  have K3 := Lib.hid (And.intro k3.1 f3); clear k3 f3 ho3
                  go_wp2_with fail
                  refine (RErr_c _ _ _ _ K3.out.1).mono ?_
                  rintro e u4 ⟨rfl, rfl⟩
                  go_wp2_with fail
                  refine (REnd_c _ _ _ _ K3.out.1).mono ?_
                  rintro e u4 ⟨rfl, rfl⟩
                  rw [stEnd_stay HNE.out]
                  go_wp2
                  go_roundw
                  case rel => exact ⟨q + 1, by omega, by go_num, K3.out⟩
                  case measure => simp [intOf]; omega
                · have q1 : ((q : Int) < (l.length : Int)) = False := eq_false (by omega)
                  have q2 : (q < l.length) = False := eq_false hql
                  clear hql hq
                  go_wp2
                  go_ret
                  exact ⟨rfl, hQ.out.2⟩
            · have g1 : ((k : Int) ≤ (lb.length : Int)) = False := eq_false (by omega)
              have g2 : (k ≤ lb.length) = False := eq_false hkl
              clear hkl hk
              go_wp2_with fail
              refine (RErr_c _ _ _ _ hH.out.1).mono ?_
              rintro e w4 ⟨rfl, rfl⟩
              go_wp2_with fail
              go_loopw [9, 10, 11, 12] (fun i _ _ _ wr2 => ∃ q : Nat, q ≤ l.length ∧ i = .int .i64 q ∧ Hid (Rr w2.heap.size br (sl, 21) wr2 ∧ Fp Non w wr2)) (fun i _ _ _ _ => l.length - (intOf i).toNat)
              case atStart => exact ⟨0, Nat.zero_le _, rfl, hH.out.1, hH.out.2.1⟩
              case round =>
                obtain ⟨q, hq, rfl, hQ⟩ := hrel
                by_cases hql : q < l.length
                · have q1 : ((q : Int) < (l.length : Int)) = True := eq_true (by omega)
                  have q2 : (q < l.length) = True := eq_true hql
                  have hsl : sl.length ≤ 1000000 := by have h9 : sl.length ≤ lb.length := hH.out.2.2.2.2; have := HLB.out; omega
                  have HSL := Lib.hid hsl; clear hsl
                  go_wp2_with fail
                  refine (RNum_c _ _ _ _ _ hQ.out.1 HSL.out).mono ?_
                  rintro e u1 ⟨rfl, k1⟩
                  rw [rNum_stay _ HNE.out] at k1 ⊢
                  have f1 := hQ.out.2.trans k1.2 (fun j hj => .inr (by omega))
                  have K1 := Lib.hid (And.intro k1.1 f1); clear k1 f1
                  go_wp2_with fail
                  refine (RText_c _ _ _ _ K1.out.1 HSL.out).mono ?_
                  rintro e u2 ⟨rfl, k2⟩
                  rw [rText_stay HNE.out] at k2 ⊢
                  have f2 := K1.out.2.trans k2.2 (fun j hj => .inr (by omega))
                  have K2 := Lib.hid (And.intro k2.1 f2); clear k2 f2
                  go_wp2_with fail
                  refine (RTexts_c _ _ _ _ K2.out.1 HSL.out).mono ?_
                  rintro e u3 ⟨v3, rfl, ho3, k3⟩
                  rw [rTexts_stay HNE.out] at ho3 k3
                  obtain ⟨a3, c3, rfl⟩ := Os.zero ho3
                  have f3 := K2.out.2.trans k3.2 (fun j hj => .inr (by omega))
                  have K3 := Lib.hid (And.intro k3.1 f3); clear k3 f3 ho3
                  go_wp2_with fail
                  refine (RErr_c _ _ _ _ K3.out.1).mono ?_
                  rintro e u4 ⟨rfl, rfl⟩
                  go_wp2_with fail
                  refine (REnd_c _ _ _ _ K3.out.1).mono ?_
                  rintro e u4 ⟨rfl, rfl⟩
                  rw [stEnd_stay HNE.out]
                  go_wp2
                  go_roundw
                  case rel => exact ⟨q + 1, by omega, by go_num, K3.out⟩
                  case measure => simp [intOf]; omega
                · have q1 : ((q : Int) < (l.length : Int)) = False := eq_false (by omega)
                  have q2 : (q < l.length) = False := eq_false hql
                  clear hql hq
                  go_wp2
                  go_ret
                  exact ⟨rfl, hQ.out.2⟩

theorem PackStays_c (v : Value) (lb : Bs) (vl : Value) (l : List It) (w : World) (hv : Sl w v lb) (hl : Its2 w w.heap.size vl l) :
    Calls Try.prog 7 #[v, vl] w fun e w' => e = .returned (.bool true) ∧ Below w.heap.size w w' := by
  refine (PackStays_f v vl lb l w hv ?_ hl).mono fun e w' h => ⟨h.1, h.2.below (fun _ h => h.elim) (Nat.le_refl _)⟩
  intro k hk
  obtain ⟨ao, cap, rfl, _, _, h3⟩ := hv.ex
  rcases h3 with ⟨rfl, _⟩ | ⟨g, o, rfl, hg, _⟩
  · cases hk
  · simp [Value.ownBlock] at hk; omega
end Go.Proofs.Ytidkihadlhkbkaa
