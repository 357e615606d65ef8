/- PackWrites: the law's walk. -/
import Derived.Test.YtidkihadlhkbkaaSm
namespace Go.Proofs.Ytidkihadlhkbkaa
open Go.RowKit Pm

/-- Of two writers apart one goes a step. -/
theorem step_pair {T1 T2 : TypeId} {lo b1 b2 : Nat} {v1 v2 : Value} {L L' L2 : Bs} {bad bad' bad2 : Bool} {w w' : World} (h1 : Wr T1 lo b1 v1 L bad w) (h2 : Wr T2 lo b2 v2 L2 bad2 w) (dj : ∀ k, own2 b1 v1 k → ¬ own2 b2 v2 k) (s : WrStep T1 lo b1 v1 L' bad' w w') :
    ∃ v1', Wr T1 lo b1 v1' L' bad' w' ∧ Wr T2 lo b2 v2 L2 bad2 w' ∧ (∀ k, own2 b1 v1' k → ¬ own2 b2 v2 k) ∧ Fp (fun k => lo ≤ k) w w' := by
  obtain ⟨v1', a1, a2, a3⟩ := s
  refine ⟨v1', a1, h2.keep a2 (fun k hk hk2 => dj k hk2 hk), ?_, a2.mono (fun k hk => (h1.all k hk).1)⟩
  intro k hk hk2
  rcases own2_next a3 k hk with h | h
  · exact dj k h hk2
  · have := (h2.all k hk2).2; omega

theorem wNum_len (L : Bs) (bad : Bool) (n : Int) : (wNum L bad n).1.length ≤ L.length + 7 := by
  unfold wNum
  by_cases h : n < 0 ∨ (M : Int) < n
  · rw [if_pos h]; exact Nat.le_add_right _ _
  · rw [if_neg h]; have := (enc_len n.toNat (by omega)).2; dsimp only; rw [List.length_append]; omega
theorem encT_len (s : Bs) (h : s.length ≤ M) : (encT s).length ≤ 7 + s.length := by
  have := (enc_len s.length h).2; unfold encT; rw [List.length_append]; omega
theorem encTs_len (ps : List Bs) (h : szs ps ≤ M) (h2 : ps.length ≤ M) : (encTs ps).length ≤ 7 + 8 * (ps.length + szs ps) := by
  have := (enc_len ps.length h2).2; have := encL_len ps h; unfold encTs; rw [List.length_append]; omega

set_option maxHeartbeats 4000000 in
set_option maxRecDepth 20000 in
theorem PackWrites_f (vl : Value) (l : List It) (w : World) (hl : Its2 w w.heap.size vl l) :
    Calls Try.prog 3 #[vl] w fun e w' => e = .returned (.bool true) ∧ Fp Non w w' := by
  obtain ⟨aol, capl, rfl, _, _, hcell⟩ := hl.its.ex
  have HV0 := Lib.hid hl; clear hl
  go_enter Try.func3, Try.ntmps3
  go_wp2_with fail
  refine (head_c w).mono ?_
  rintro e w0 ⟨rfl, hf⟩
  have hl1 := HV0.out.keep hf (fun _ h => h.elim)
  have HF := Lib.hid hf; clear hf
  have HV1 := Lib.hid hl1; clear hl1
  go_wp2_with fail
  refine (Great_c _ _ _ _ HV1.out).mono ?_
  rintro e w1 ⟨g, rfl, hg, hf2⟩
  have hfw := HF.out.then hf2
  have hs1 := hfw.size
  have HG := Lib.hid (And.intro hg hfw); clear hg hf2 hfw
  cases g with
  | true =>
    go_wp2
    go_ret
    exact ⟨rfl, HG.out.2⟩
  | false =>
    have HTOT := Lib.hid (HG.out.1 rfl)
    have hll : l.length ≤ 20000 := by have := HTOT.out; omega
    have x0 := Wr.new TW w1.heap.size w1 (Nat.le_refl _)
    have fx := HG.out.2.alloc (.cells #[.slice none 0 0, .bool false] TW)
    have y0 := Wr.new TR w1.heap.size (w1.alloc (.cells #[.slice none 0 0, .bool false] TW)) (by simp)
    rw [show (w1.alloc (.cells #[.slice none 0 0, .bool false] TW)).heap.size = w1.heap.size + 1 by simp] at y0
    have x1 := x0.keep ((Fp.refl Non (w1.alloc (.cells #[.slice none 0 0, .bool false] TW))).alloc (.cells #[.slice none 0 0, .bool false] TR)) (fun _ _ h => h)
    have fy := fx.alloc (.cells #[.slice none 0 0, .bool false] TR)
    have HX0 := Lib.hid (And.intro x1 (And.intro y0 fy)); clear x0 fx y0 x1 fy
    go_wp2_with fail
    go_loopw [6] (fun i wr => ∃ k : Nat, k ≤ l.length ∧ i = .int .i64 k ∧ ∃ vx vy L bad, Hid (Wr TW w1.heap.size w1.heap.size vx L bad wr ∧ Wr TR w1.heap.size (w1.heap.size + 1) vy L bad wr ∧ (∀ j, own2 w1.heap.size vx j → ¬ own2 (w1.heap.size + 1) vy j) ∧ Fp Non w wr ∧ L.length ≤ 8 * (k + tot (l.take k)))) (fun i _ => l.length - (intOf i).toNat)
    case atStart =>
      refine ⟨0, Nat.zero_le _, rfl, .slice none 0 0, .slice none 0 0, [], false, HX0.out.1, HX0.out.2.1, ?_, HX0.out.2.2, by simp⟩
      intro j h1 h2
      rcases h1 with h1 | h1
      · rcases h2 with h2 | h2
        · omega
        · cases h2
      · cases h1
    case round =>
      obtain ⟨k, hk, rfl, vx, vy, L, bad, HH⟩ := hrel
      by_cases hkl : k < l.length
      · have q1 : ((k : Int) < (l.length : Int)) = True := eq_true (by omega)
        have q2 : (k < l.length) = True := eq_true hkl
        rcases hcell with hcell | ⟨gi, oi, rfl, hgi, hcell⟩
        · omega
        have hit := (hcell k hkl).keep HH.out.2.2.2.1 (fun _ h => h.elim) hgi
        have HIC := Lib.hid hcell; clear hcell
        have hts := tot_take_succ l k hkl
        have htl := tot_take_le l (k + 1) hkl
        generalize hxx : l[k] = x at hit hts
        have HX := Lib.hid hxx; clear hxx
        have HSZ := Lib.hid (show tot (l.take (k + 1)) = tot (l.take k) + gsz x ∧ L.length + 8 * (1 + gsz x) ≤ 200000 ∧ L.length ≤ 8 * (k + tot (l.take k)) by
          have := HTOT.out; have := HH.out.2.2.2.2; omega)
        have c0 := hit.c0
        have c1 := hit.c1
        have c2 := hit.c2
        have c3 := hit.c3
        have HIT := Lib.hid hit; clear hit hts htl
        by_cases h0 : x.what = 0
        · rw [h0] at c0
          clear h0
          have HV := Lib.hid (show L.length ≤ 50000000 by have := HSZ.out; unfold gsz at this; omega)
          go_wp2_with fail
          refine (Num_c _ _ _ _ _ _ _ HH.out.1 HV.out).mono ?_
          rintro e w5 ⟨rfl, hst⟩
          obtain ⟨vx', hx', hy', hdj, hfx⟩ := step_pair HH.out.1 HH.out.2.1 HH.out.2.2.1 hst
          have hit2 := (HIC.out k hkl).keep (HH.out.2.2.2.1.trans hfx (fun j hj => .inr (Nat.le_trans hs1 hj))) (fun _ h => h.elim) hgi
          have HA := Lib.hid (And.intro hx' (And.intro hy' (And.intro hdj (HH.out.2.2.2.1.trans hfx (fun j hj => .inr (Nat.le_trans hs1 hj)))))); clear hx' hy' hdj hfx hst
          rw [HX.out] at hit2
          have d1 := hit2.c1
          have d2 := hit2.c2
          have d3 := hit2.c3
          have HIT2 := Lib.hid hit2; clear hit2
          go_wp2_with fail
          refine (rNum_c _ _ _ _ _ _ _ HA.out.2.1 HV.out).mono ?_
          rintro e w6 ⟨rfl, hst⟩
          obtain ⟨vy', hy', hx', hdj, hfy⟩ := step_pair HA.out.2.1 HA.out.1 (fun j h1 h2 => HA.out.2.2.1 j h2 h1) hst
          have HB := Lib.hid (And.intro hx' (And.intro hy' (And.intro (fun j h1 h2 => hdj j h2 h1 : ∀ j, own2 w1.heap.size vx' j → ¬ own2 (w1.heap.size + 1) vy' j) (HA.out.2.2.2.trans hfy (fun j hj => .inr (Nat.le_trans hs1 hj)))))); clear hx' hy' hdj hfy hst
          go_wp2
          go_roundw
          case rel => exact ⟨k + 1, by omega, by go_num, vx', vy', (wNum L bad x.n).1, (wNum L bad x.n).2, HB.out.1, HB.out.2.1, HB.out.2.2.1, HB.out.2.2.2, by have := HSZ.out; have := wNum_len L bad x.n; omega⟩
          case measure => simp [intOf]; omega
        · by_cases h1 : x.what = 1
          · rw [h1] at c0
            clear h0 h1
            have HV := Lib.hid (show L.length + x.s.length ≤ 50000000 by have := HSZ.out; unfold gsz at this; omega)
            go_wp2_with fail
            refine (Text_c _ _ _ _ x.s _ _ HH.out.1 HV.out).mono ?_
            rintro e w5 ⟨rfl, hst⟩
            obtain ⟨vx', hx', hy', hdj, hfx⟩ := step_pair HH.out.1 HH.out.2.1 HH.out.2.2.1 hst
            have hit2 := (HIC.out k hkl).keep (HH.out.2.2.2.1.trans hfx (fun j hj => .inr (Nat.le_trans hs1 hj))) (fun _ h => h.elim) hgi
            have HA := Lib.hid (And.intro hx' (And.intro hy' (And.intro hdj (HH.out.2.2.2.1.trans hfx (fun j hj => .inr (Nat.le_trans hs1 hj)))))); clear hx' hy' hdj hfx hst
            rw [HX.out] at hit2
            have d1 := hit2.c1
            have d2 := hit2.c2
            have d3 := hit2.c3
            have HIT2 := Lib.hid hit2; clear hit2
            go_wp2_with fail
            refine (rText_c _ _ _ _ x.s _ _ HA.out.2.1 HV.out).mono ?_
            rintro e w6 ⟨rfl, hst⟩
            obtain ⟨vy', hy', hx', hdj, hfy⟩ := step_pair HA.out.2.1 HA.out.1 (fun j h1 h2 => HA.out.2.2.1 j h2 h1) hst
            have HB := Lib.hid (And.intro hx' (And.intro hy' (And.intro (fun j h1 h2 => hdj j h2 h1 : ∀ j, own2 w1.heap.size vx' j → ¬ own2 (w1.heap.size + 1) vy' j) (HA.out.2.2.2.trans hfy (fun j hj => .inr (Nat.le_trans hs1 hj)))))); clear hx' hy' hdj hfy hst
            go_wp2
            go_roundw
            case rel => exact ⟨k + 1, by omega, by go_num, vx', vy', (L ++ encT x.s), bad, HB.out.1, HB.out.2.1, HB.out.2.2.1, HB.out.2.2.2, by have := HSZ.out; have := encT_len x.s (by unfold M; unfold gsz at this; omega); rw [List.length_append]; unfold gsz at *; omega⟩
            case measure => simp [intOf]; omega
          · by_cases h2 : x.what = 2
            · rw [h2] at c0
              clear h0 h1 h2
              have HV := Lib.hid (show L.length + 8 * (x.ps.length + szs x.ps) ≤ 40000000 by have := HSZ.out; unfold gsz at this; omega)
              have HS := Lib.hid (show Ss wr x.lv x.ps ∧ (0 < x.ps.length → ∀ k, x.lv.ownBlock = some k → k < w1.heap.size) from ⟨HIT.out.ss, fun h k hk => by have := HIT.out.low h k hk; omega⟩)
              go_wp2_with fail
              refine (Texts_c _ _ _ _ _ x.lv x.ps _ HH.out.1 HS.out.1 HS.out.2 HV.out).mono ?_
              rintro e w5 ⟨rfl, hst⟩
              obtain ⟨vx', hx', hy', hdj, hfx⟩ := step_pair HH.out.1 HH.out.2.1 HH.out.2.2.1 hst
              have hit2 := (HIC.out k hkl).keep (HH.out.2.2.2.1.trans hfx (fun j hj => .inr (Nat.le_trans hs1 hj))) (fun _ h => h.elim) hgi
              have HA := Lib.hid (And.intro hx' (And.intro hy' (And.intro hdj (HH.out.2.2.2.1.trans hfx (fun j hj => .inr (Nat.le_trans hs1 hj)))))); clear hx' hy' hdj hfx hst
              rw [HX.out] at hit2
              have d1 := hit2.c1
              have d2 := hit2.c2
              have d3 := hit2.c3
              have HIT2 := Lib.hid hit2; clear hit2
              go_wp2_with fail
              refine (rTexts_c _ _ _ _ _ x.lv x.ps _ HA.out.2.1 HIT2.out.ss HS.out.2 HV.out).mono ?_
              rintro e w6 ⟨rfl, hst⟩
              obtain ⟨vy', hy', hx', hdj, hfy⟩ := step_pair HA.out.2.1 HA.out.1 (fun j h1 h2 => HA.out.2.2.1 j h2 h1) hst
              have HB := Lib.hid (And.intro hx' (And.intro hy' (And.intro (fun j h1 h2 => hdj j h2 h1 : ∀ j, own2 w1.heap.size vx' j → ¬ own2 (w1.heap.size + 1) vy' j) (HA.out.2.2.2.trans hfy (fun j hj => .inr (Nat.le_trans hs1 hj)))))); clear hx' hy' hdj hfy hst
              go_wp2
              go_roundw
              case rel => exact ⟨k + 1, by omega, by go_num, vx', vy', (L ++ encTs x.ps), bad, HB.out.1, HB.out.2.1, HB.out.2.2.1, HB.out.2.2.2, by have := HSZ.out; have := encTs_len x.ps (by unfold M; unfold gsz at this; omega) (by unfold M; unfold gsz at this; omega); rw [List.length_append]; unfold gsz at *; omega⟩
              case measure => simp [intOf]; omega
            · have t0 : (x.what == 0) = false := beq_eq_false_iff_ne.2 h0
              have t1 : (x.what == 1) = false := beq_eq_false_iff_ne.2 h1
              have t2 : (x.what == 2) = false := beq_eq_false_iff_ne.2 h2
              clear h0 h1 h2
              go_wp2
              go_roundw
              case rel => exact ⟨k + 1, by omega, by go_num, vx, vy, L, bad, HH.out.1, HH.out.2.1, HH.out.2.2.1, HH.out.2.2.2.1, by have := HSZ.out; omega⟩
              case measure => simp [intOf]; omega
      · have q1 : ((k : Int) < (l.length : Int)) = False := eq_false (by omega)
        have q2 : (k < l.length) = False := eq_false hkl
        have HLN := Lib.hid (show L.length ≤ 200000 by have := HH.out.2.2.2.2; have := tot_take_le l k hk; have := HTOT.out; omega)
        clear hkl hk hcell
        obtain ⟨Q, hQ⟩ : ∃ Q, (if bad = true then ([] : Bs) else L) = Q := ⟨_, rfl⟩
        obtain ⟨Er, hE⟩ : ∃ Er, (if bad = true then (1 : Int) else 0) = Er := ⟨_, rfl⟩
        have HQE := Lib.hid (And.intro hQ hE); clear hQ hE
        go_wp2_with fail
        refine (Bytes_c _ _ _ _ _ _ HH.out.1 (by have := HLN.out; omega)).mono ?_
        rintro e w4 ⟨vc, rfl, hc⟩
        rw [HQE.out.1] at hc
        rw [HQE.out.2]
        have hy4 := HH.out.2.1.keep hc.fp (fun _ _ h => h)
        obtain ⟨aoc, capc, rfl⟩ := hc.shape
        have HC := Lib.hid (And.intro hc (HH.out.2.2.2.1.then hc.fp)); clear hc
        have HY4 := Lib.hid hy4; clear hy4
        go_wp2_with fail
        refine (rBytes_c _ _ _ _ _ _ HY4.out (by have := HLN.out; omega)).mono ?_
        rintro e w5 ⟨vd, rfl, hd⟩
        rw [HQE.out.1] at hd
        rw [HQE.out.2]
        have hcc := conv_sl w5 _ _ (HC.out.1.sl.keep hd.fp (fun _ _ h => h))
        have hcd := conv_sl w5 _ _ hd.sl
        obtain ⟨aod, capd, rfl⟩ := hd.shape
        have HD := Lib.hid (HC.out.2.then hd.fp); clear hd
        have hEr : (Er == Er) = true := beq_self_eq_true _
        go_wp2
        go_ret
        exact ⟨rfl, HD.out⟩

theorem PackWrites_c (vl : Value) (l : List It) (w : World) (hl : Its2 w w.heap.size vl l) :
    Calls Try.prog 3 #[vl] w fun e w' => e = .returned (.bool true) ∧ Below w.heap.size w w' :=
  (PackWrites_f vl l w hl).mono fun _ _ h => ⟨h.1, h.2.below (fun _ h => h.elim) (Nat.le_refl _)⟩
end Go.Proofs.Ytidkihadlhkbkaa
