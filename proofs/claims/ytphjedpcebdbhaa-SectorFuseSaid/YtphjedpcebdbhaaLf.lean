/- SectorFuse: the law's walk. -/
import Derived.Test.YtphjedpcebdbhaaGr
import Derived.Test.YtphjedpcebdbhaaLr
namespace Go.Proofs.Ytphjedpcebdbhaa
open Go.RowKit Pm

/-- What holds of a disk with a fuse, as long as it is only written. -/
structure FuAt (F L : Nat) (s : Dk) : Prop where
  rt : Rt s
  cl : s.cur.length = L
  fu : s.fuse = (F : Int) - (s.acts : Int)
  ac : s.acts ≤ F
  of : s.off = true → s.fuse = 0

theorem FuAt.spent {F L : Nat} {s : Dk} (h : FuAt F L s) (h0 : s.acts = F) (a : Int) (b : Bs) : (dWrite s a b).1 = 31 ∧ FuAt F L (dWrite s a b).2 ∧ (dWrite s a b).2.acts = F := by
  have hf : s.fuse = 0 := by have := h.fu; omega
  have ho : (pw s).off = true := by simp [pw, hf]
  have e : dWrite s a b = (31, pw s) := by unfold dWrite; rw [if_pos ho]
  rw [e]
  exact ⟨rfl, ⟨h.rt.pw, h.cl, h.fu, h.ac, fun _ => hf⟩, h0⟩
theorem FuAt.live {F L : Nat} {s : Dk} (h : FuAt F L s) (h0 : s.acts ≠ F) : s.off = false ∧ 0 < s.fuse ∧ pw s = s := by
  have hf : 0 < s.fuse := by have := h.fu; have := h.ac; omega
  have ho : s.off = false := by
    cases e : s.off with
    | false => rfl
    | true => have := h.of e; omega
  refine ⟨ho, hf, ?_⟩
  unfold pw
  have : decide (s.fuse = 0) = false := decide_eq_false (by omega)
  rw [this, Bool.or_false]
theorem FuAt.fit {F L : Nat} {s : Dk} (h : FuAt F L s) (h0 : s.acts ≠ F) (a : Int) (b : Bs) (hf : fits s a b.length) : (dWrite s a b).1 = 0 ∧ FuAt F L (dWrite s a b).2 ∧ (dWrite s a b).2.acts = s.acts + 1 := by
  obtain ⟨h1, h2, h3⟩ := h.live h0
  have e : dWrite s a b = (0, did (put s a.toNat b)) := by
    unfold dWrite; rw [h3, if_neg (by rw [h1]; exact Bool.false_ne_true), if_pos hf]
  have hle : a.toNat + b.length ≤ s.cur.length := by unfold fits at hf; omega
  rw [e]
  refine ⟨rfl, ⟨(h.rt.put a.toNat b hle).did, ?_, ?_, ?_, fun ho => ?_⟩, rfl⟩
  · show (spl s.cur a.toNat b).length = L; rw [spl_len _ _ _ hle]; exact h.cl
  · show (if 0 < s.fuse then s.fuse - 1 else s.fuse) = (F : Int) - ((s.acts + 1 : Nat) : Int); rw [if_pos h2]; have := h.fu; omega
  · show s.acts + 1 ≤ F; have := h.ac; omega
  · have : s.off = true := ho
    rw [h1] at this; cases this
theorem FuAt.unfit {F L : Nat} {s : Dk} (h : FuAt F L s) (h0 : s.acts ≠ F) (a : Int) (b : Bs) (hf : ¬ fits s a b.length) : (dWrite s a b).1 = 1 ∧ FuAt F L (dWrite s a b).2 ∧ (dWrite s a b).2.acts = s.acts := by
  obtain ⟨h1, h2, h3⟩ := h.live h0
  have e : dWrite s a b = (1, s) := by
    unfold dWrite; rw [h3, if_neg (by rw [h1]; exact Bool.false_ne_true), if_neg hf]
  rw [e]
  exact ⟨rfl, h, rfl⟩

set_option maxHeartbeats 1000000 in
theorem Fuse_none (v : Value) (l : Bs) (n : Nat) (qv : Value) (w : World) (hl : Sl w v l) (h : ¬ (1 ≤ l.length / 16 ∧ l.length / 16 ≤ 4096 ∧ l.length % 16 = 0)) : Calls Try.prog 7 #[v, .int .u8 (n : Int), qv] w fun e w' => e = .returned (.bool true) ∧ Fp Non w w' := by
  have HL := Lib.hid (And.intro hl h); clear hl h
  go_enter Try.func7, Try.ntmps7
  go_wp2_with fail
  refine (head_c w).mono ?_
  rintro e w1 ⟨rfl, hf⟩
  have hn := Of_none w1 v l (HL.out.1.keep hf (fun _ _ h => h)) HL.out.2
  have HF := Lib.hid (And.intro hf hn); clear hf hn
  go_wp2_with fail
  refine HF.out.2.mono ?_
  rintro e w2 ⟨rfl, rfl⟩
  go_wp2
  go_ret
  exact ⟨rfl, HF.out.1⟩

set_option maxHeartbeats 1000000 in
theorem Fuse_long (v : Value) (l : Bs) (n : Nat) (qv : Value) (q : List Oq) (w : World) (hl : Sl w v l) (hq : Oqs w w.heap.size qv q) (N : Nat) (h1 : 1 ≤ N) (h2 : N ≤ 4096) (hln : l.length = N * 16) (h : 5000 < l.length) : Calls Try.prog 7 #[v, .int .u8 (n : Int), qv] w fun e w' => e = .returned (.bool true) ∧ Fp Non w w' := by
  obtain ⟨qao, qcap, hqv, _, _, _⟩ := hq.ex
  obtain ⟨ao, cap, hv, _, _, _⟩ := hl.ex
  have HL := Lib.hid (And.intro hl hq)
  have HN := Lib.hid (And.intro h1 (And.intro h2 hln))
  rw [hv, hqv]
  have q1 : ((5000 : Int) < (l.length : Int)) = True := eq_true (by omega)
  clear hl hq h h1 h2 hln
  go_enter Try.func7, Try.ntmps7
  go_wp2_with fail
  refine (head_c w).mono ?_
  rintro e w1 ⟨rfl, hf⟩
  have hn := Of_c w1.heap.size w1 v l (HL.out.1.keep hf (fun _ _ h => h)) N HN.out.1 HN.out.2.1 HN.out.2.2 (Nat.le_refl _)
  rw [hv] at hn
  have HF := Lib.hid (And.intro hf hn); clear hf hn
  go_wp2_with fail
  refine HF.out.2.mono ?_
  rintro e w2 ⟨b, g, m, rfl, hd, hf2, hown⟩
  have H2 := Lib.hid (And.intro hd (And.intro hf2 hown)); clear hf2 hd hown
  have hq2 := (HL.out.2.keep_ HF.out.1 (fun _ h => h.elim)).keep_ H2.out.2.1 (fun _ h => h.elim)
  have hgr := Great_c w.heap.size qv q w2 hq2
  rw [hqv] at hgr
  have HG := Lib.hid (And.intro hq2 hgr); clear hq2 hgr
  go_wp2_with fail
  refine HG.out.2.mono ?_
  rintro e w3 ⟨gr, rfl, hgl, hf3⟩
  have H3 := Lib.hid hf3; clear hf3 hgl
  cases gr with
  | true =>
    go_wp2
    go_ret
    exact ⟨rfl, (HF.out.1.then H2.out.2.1).then H3.out⟩
  | false =>
    go_wp2
    go_ret
    exact ⟨rfl, (HF.out.1.then H2.out.2.1).then H3.out⟩

attribute [local irreducible] wpStill

set_option maxRecDepth 20000 in
set_option maxHeartbeats 4000000 in
theorem Fuse_some (v : Value) (l : Bs) (n : Nat) (qv : Value) (q : List Oq) (w : World) (hl : Sl w v l) (hq : Oqs w w.heap.size qv q) (N : Nat) (h1 : 1 ≤ N) (h2 : N ≤ 4096) (hln : l.length = N * 16) (h : l.length ≤ 5000) (hnn : n < 256) (Fu : Nat) (hFu : Fu = n % 20) : Calls Try.prog 7 #[v, .int .u8 (n : Int), qv] w fun e w' => e = .returned (.bool true) ∧ Fp Non w w' := by
  obtain ⟨qao, qcap, hqv, hq1, _, hq3⟩ := hq.ex
  obtain ⟨ao, cap, hv, _, _, _⟩ := hl.ex
  have HL := Lib.hid (And.intro hl hq)
  have HN := Lib.hid (And.intro h1 (And.intro h2 hln))
  rw [hv, hqv]
  have q1 : ((5000 : Int) < (l.length : Int)) = False := eq_false (by omega)
  have t1 : (n : Int).tmod 20 = (Fu : Int) := by rw [Int.tmod_eq_emod_of_nonneg (by omega)]; omega
  have t2 : (n : Int) % 20 = (Fu : Int) := by omega
  have hF20 : Fu ≤ 19 := by omega
  have HQ3 := Lib.hid (And.intro hq1 hq3)
  clear hl hq h h1 h2 hln hFu hq1 hq3
  go_enter Try.func7, Try.ntmps7
  go_wp2_with fail
  refine (head_c w).mono ?_
  rintro e w1 ⟨rfl, hf⟩
  have hn := Of_c w1.heap.size w1 v l (HL.out.1.keep hf (fun _ _ h => h)) N HN.out.1 HN.out.2.1 HN.out.2.2 (Nat.le_refl _)
  rw [hv] at hn
  have HF := Lib.hid (And.intro hf hn); clear hf hn
  go_wp2_with fail
  refine HF.out.2.mono ?_
  rintro e w2 ⟨b, g, m, rfl, hd, hf2, hown⟩
  have H2 := Lib.hid (And.intro hd (And.intro hf2 hown)); clear hf2 hd hown
  have hq2 := (HL.out.2.keep_ HF.out.1 (fun _ h => h.elim)).keep_ H2.out.2.1 (fun _ h => h.elim)
  have hgr := Great_c w.heap.size qv q w2 hq2
  rw [hqv] at hgr
  have HG := Lib.hid (And.intro hq2 hgr); clear hq2 hgr
  go_wp2_with fail
  refine HG.out.2.mono ?_
  rintro e w3 ⟨gr, rfl, hgl, hf3⟩
  have H3 := Lib.hid (And.intro hf3 hgl); clear hf3 hgl
  have hz : ∀ j, own3 b g m j → False ∨ w.heap.size ≤ j := fun j hj => .inr (by have := H2.out.2.2 j hj; have := HF.out.1.size; omega)
  have HZ0 := Lib.hid (And.intro hz ((HF.out.1.then H2.out.2.1).then H3.out.1)); clear hz
  cases gr with
  | true =>
    go_wp2
    go_ret
    exact ⟨rfl, HZ0.out.2⟩
  | false =>
    have hd3 := H2.out.1.keep H3.out.1 (fun _ _ h => h)
    have HD3 := Lib.hid hd3; clear hd3
    have hq300 : q.length ≤ 300 := H3.out.2 rfl
    go_wp2_with fail
    refine (Fuse_c HD3.out (Fu : Int) (by omega)).mono ?_
    rintro e w4 ⟨rfl, hd4, hf4⟩
    have hF0 : FuAt Fu l.length (dFuse (dOf l) (Fu : Int)) := by
      refine ⟨hd4.rt, rfl, ?_, Nat.zero_le _, fun h => by cases h⟩
      show max (Fu : Int) (-1) = (Fu : Int) - ((0 : Nat) : Int); omega
    have H4 := Lib.hid (And.intro hd4 (And.intro (HZ0.out.2.trans (hf4.mono (fun k hk => Or.inl hk)) HZ0.out.1) hF0)); clear hd4 hf4 hF0
    go_wp2_with fail
    go_loopw [9] (fun i wr => ∃ k : Nat, k ≤ q.length ∧ i = .int .i64 k ∧ ∃ s, Hid (Dr w1.heap.size b g m s wr ∧ Fp Non w wr ∧ FuAt Fu l.length s)) (fun i _ => q.length - (RowKit.intOf i).toNat)
    case atStart => exact ⟨0, Nat.zero_le _, rfl, _, H4.out.1, H4.out.2.1, H4.out.2.2⟩
    case round =>
      obtain ⟨k, hk, rfl, s, hR⟩ := hrel
      rename_i wr _
      by_cases hlt : k < q.length
      · have g1 : ((k : Int) < (q.length : Int)) = True := eq_true (by omega)
        have g2 : (k < q.length) = True := eq_true hlt
        rcases HQ3.out.2 with h0 | ⟨qg, qo, rfl, hqg, hqc⟩
        · have := HQ3.out.1; omega
        have hit := (hqc k hlt).keep_ hR.out.2.1 (fun _ h => h.elim) hqg
        generalize q[k] = x at hit
        have c1 := hit.c1
        have c2 := hit.c2
        have hwr := Write_c (hR.out.1.keep (Fp.drew (Fp.refl Non wr)) (fun _ _ h => h)) x.at_ hit.ha x.bv x.b (hit.sb.keep (Fp.drew (Fp.refl Non wr)) (fun _ _ _ h => h)) (fun h0 j hj ho => by have h5 := hit.lb h0 j hj; rcases HZ0.out.1 j ho with h | h; exact h; omega) (by have := hR.out.2.2.ac; omega)
        obtain ⟨xao, xcap, exb, _, _, _⟩ := hit.sb.ex
        rw [exb] at c2 hwr
        have q13 : wrap64 ((k : Int) + 1) = ((k + 1 : Nat) : Int) := by unfold wrap64; omega
        have HW := Lib.hid hwr
        have HZ := Lib.hid (And.intro hlt (And.intro hk (And.intro hit (And.intro exb q13))))
        clear hlt hk hit exb hqc hwr q13
        by_cases hsp : s.acts = Fu
        · have hst := hR.out.2.2.spent hsp x.at_ x.b
          have hst : (dWrite s x.at_ x.b).1 = 31 ∧ FuAt Fu l.length (dWrite s x.at_ x.b).2 ∧ s.acts = Fu ∧ (dWrite s x.at_ x.b).2.acts = Fu := ⟨hst.1, hst.2.1, hsp, hst.2.2⟩
          clear hsp
          cases hoff : s.off with
          | true =>
            have HV := Lib.hid (And.intro hst hoff); clear hst hoff
            have hac := Acts_c hR.out.1
            have hdn := Down_c hR.out.1
            rw [HV.out.2] at hdn
            rw [HV.out.1.2.2.1] at hac
            have HA := Lib.hid (And.intro hac hdn); clear hac hdn
            go_wp2_with fail
            refine HA.out.1.mono ?_
            rintro e wx ⟨rfl, rfl⟩
            go_wp2_with fail
            refine HA.out.2.mono ?_
            rintro e wx ⟨rfl, rfl⟩
            go_wp2_with fail
            refine wp_region_still_tail 11 (by kernel_rfl) (by kernel_rfl) ?_
            simp only [List.take_succ_cons, List.take_zero, List.drop_succ_cons, List.drop_zero]
            change wpStill _ _ wx.drew _ _ _
            repeat still_step
            refine wpStill_nil ?_
            change wpList _ _ _ _ _ wx.drew
            go_wp2_with fail
            refine HW.out.mono ?_
            rintro e w5 ⟨rfl, hd5, hf5⟩
            rw [HV.out.1.1]
            have hac2 := Acts_c hd5
            rw [HV.out.1.2.2.2] at hac2
            have HA2 := Lib.hid hac2; clear hac2
            have H5 := Lib.hid (And.intro hd5 ((hR.out.2.1.drew).trans hf5 HZ0.out.1)); clear hd5 hf5
            go_wp2_with fail
            refine HA2.out.mono ?_
            rintro e w6 ⟨rfl, rfl⟩
            have q13 := HZ.out.2.2.2.2
            go_wp2
            go_roundw
            case rel => exact ⟨k + 1, HZ.out.1, congrArg (Value.int .i64) q13, _, H5.out.1, H5.out.2, HV.out.1.2.1⟩
            case measure => have := HZ.out.1; rw [q13]; simp [RowKit.intOf]; omega
          | false =>
            have HV := Lib.hid (And.intro hst hoff); clear hst hoff
            have hac := Acts_c hR.out.1
            have hdn := Down_c hR.out.1
            rw [HV.out.2] at hdn
            rw [HV.out.1.2.2.1] at hac
            have HA := Lib.hid (And.intro hac hdn); clear hac hdn
            go_wp2_with fail
            refine HA.out.1.mono ?_
            rintro e wx ⟨rfl, rfl⟩
            go_wp2_with fail
            refine HA.out.2.mono ?_
            rintro e wx ⟨rfl, rfl⟩
            go_wp2_with fail
            refine wp_region_still_tail 11 (by kernel_rfl) (by kernel_rfl) ?_
            simp only [List.take_succ_cons, List.take_zero, List.drop_succ_cons, List.drop_zero]
            change wpStill _ _ wx.drew _ _ _
            repeat still_step
            refine wpStill_nil ?_
            change wpList _ _ _ _ _ wx.drew
            go_wp2_with fail
            refine HW.out.mono ?_
            rintro e w5 ⟨rfl, hd5, hf5⟩
            rw [HV.out.1.1]
            have hac2 := Acts_c hd5
            rw [HV.out.1.2.2.2] at hac2
            have HA2 := Lib.hid hac2; clear hac2
            have H5 := Lib.hid (And.intro hd5 ((hR.out.2.1.drew).trans hf5 HZ0.out.1)); clear hd5 hf5
            go_wp2_with fail
            refine HA2.out.mono ?_
            rintro e w6 ⟨rfl, rfl⟩
            have q13 := HZ.out.2.2.2.2
            go_wp2
            go_roundw
            case rel => exact ⟨k + 1, HZ.out.1, congrArg (Value.int .i64) q13, _, H5.out.1, H5.out.2, HV.out.1.2.1⟩
            case measure => have := HZ.out.1; rw [q13]; simp [RowKit.intOf]; omega
        · have hoff := (hR.out.2.2.live hsp).1
          have g5 : ((s.acts : Int) = (Fu : Int)) = False := eq_false (by omega)
          have g6 : ((s.acts : Int) == (Fu : Int)) = false := by simp only [beq_eq_false_iff_ne, ne_eq]; omega
          have g7 : wrap64 ((s.acts : Int) + 1) = ((s.acts + 1 : Nat) : Int) := by have := hR.out.2.2.ac; unfold wrap64; omega
          by_cases hfi : fits s x.at_ x.b.length
          · have HV := Lib.hid (And.intro (hR.out.2.2.fit hsp x.at_ x.b hfi) hoff); clear hfi hoff hsp
            have hac := Acts_c hR.out.1
            have hdn := Down_c hR.out.1
            rw [HV.out.2] at hdn
            skip
            have HA := Lib.hid (And.intro hac hdn); clear hac hdn
            go_wp2_with fail
            refine HA.out.1.mono ?_
            rintro e wx ⟨rfl, rfl⟩
            go_wp2_with fail
            refine HA.out.2.mono ?_
            rintro e wx ⟨rfl, rfl⟩
            go_wp2_with fail
            refine wp_region_still_tail 11 (by kernel_rfl) (by kernel_rfl) ?_
            simp only [List.take_succ_cons, List.take_zero, List.drop_succ_cons, List.drop_zero]
            change wpStill _ _ wx.drew _ _ _
            repeat still_step
            refine wpStill_nil ?_
            change wpList _ _ _ _ _ wx.drew
            go_wp2_with fail
            refine HW.out.mono ?_
            rintro e w5 ⟨rfl, hd5, hf5⟩
            rw [HV.out.1.1]
            have hac2 := Acts_c hd5
            rw [HV.out.1.2.2] at hac2
            have HA2 := Lib.hid hac2; clear hac2
            have H5 := Lib.hid (And.intro hd5 ((hR.out.2.1.drew).trans hf5 HZ0.out.1)); clear hd5 hf5
            go_wp2_with fail
            refine HA2.out.mono ?_
            rintro e w6 ⟨rfl, rfl⟩
            have q13 := HZ.out.2.2.2.2
            go_wp2
            go_roundw
            case rel => exact ⟨k + 1, HZ.out.1, congrArg (Value.int .i64) q13, _, H5.out.1, H5.out.2, HV.out.1.2.1⟩
            case measure => have := HZ.out.1; rw [q13]; simp [RowKit.intOf]; omega
          · have HV := Lib.hid (And.intro (hR.out.2.2.unfit hsp x.at_ x.b hfi) hoff); clear hfi hoff hsp
            have hac := Acts_c hR.out.1
            have hdn := Down_c hR.out.1
            rw [HV.out.2] at hdn
            skip
            have HA := Lib.hid (And.intro hac hdn); clear hac hdn
            go_wp2_with fail
            refine HA.out.1.mono ?_
            rintro e wx ⟨rfl, rfl⟩
            go_wp2_with fail
            refine HA.out.2.mono ?_
            rintro e wx ⟨rfl, rfl⟩
            go_wp2_with fail
            refine wp_region_still_tail 11 (by kernel_rfl) (by kernel_rfl) ?_
            simp only [List.take_succ_cons, List.take_zero, List.drop_succ_cons, List.drop_zero]
            change wpStill _ _ wx.drew _ _ _
            repeat still_step
            refine wpStill_nil ?_
            change wpList _ _ _ _ _ wx.drew
            go_wp2_with fail
            refine HW.out.mono ?_
            rintro e w5 ⟨rfl, hd5, hf5⟩
            rw [HV.out.1.1]
            have hac2 := Acts_c hd5
            rw [HV.out.1.2.2] at hac2
            have HA2 := Lib.hid hac2; clear hac2
            have H5 := Lib.hid (And.intro hd5 ((hR.out.2.1.drew).trans hf5 HZ0.out.1)); clear hd5 hf5
            go_wp2_with fail
            refine HA2.out.mono ?_
            rintro e w6 ⟨rfl, rfl⟩
            have q13 := HZ.out.2.2.2.2
            go_wp2
            go_roundw
            case rel => exact ⟨k + 1, HZ.out.1, congrArg (Value.int .i64) q13, _, H5.out.1, H5.out.2, HV.out.1.2.1⟩
            case measure => have := HZ.out.1; rw [q13]; simp [RowKit.intOf]; omega
      · have g1 : ((k : Int) < (q.length : Int)) = False := eq_false (by omega)
        clear hlt hk
        have hfit1 : fits s 0 1 := ⟨by omega, by omega, by have := hR.out.2.2.cl; have := HN.out; omega⟩
        have hcr : (dCrash s []).fuse = -1 ∧ (dCrash s []).off = false ∧ (dCrash s []).acts = s.acts := ⟨rfl, rfl, rfl⟩
        have hsy : (dSync (dCrash s [])).1 = 0 ∧ (dSync (dCrash s [])).2.off = false := by
          unfold dSync
          have : (pw (dCrash s [])).off = false := rfl
          rw [if_neg (by rw [this]; exact Bool.false_ne_true)]
          exact ⟨rfl, this⟩
        have HS := Lib.hid (And.intro hfit1 (And.intro hcr hsy)); clear hfit1 hcr hsy
        cases hoff : s.off with
        | true =>
          have er : (dRead s 0 1).2 = 31 := by unfold dRead; rw [if_pos hoff]
          have HE := Lib.hid (And.intro er hoff); clear er hoff
          go_wp2_with fail
          refine (Read_c hR.out.1 0 1 (by omega)).mono ?_
          rintro e w5 ⟨xv, rfl, hx⟩
          rw [HE.out.1]
          have hd5 := hR.out.1.keep hx.fp (fun _ _ h => h)
          have hx5 := hx.fp
          obtain ⟨rao, rlen, rcap, rfl⟩ := hx.shape3
          have hdn := Down_c hd5
          rw [HE.out.2] at hdn
          have H5 := Lib.hid (And.intro hd5 (And.intro (hR.out.2.1.then hx5) hdn)); clear hd5 hx hx5 hdn
          go_wp2_with fail
          refine H5.out.2.2.mono ?_
          rintro e w6 ⟨rfl, rfl⟩
          go_wp2_with fail
          refine (Crash_c H5.out.1 _ [] (Sb.nil _) (fun h => by simp at h)).mono ?_
          rintro e w7 ⟨rfl, hd7, hf7⟩
          have H7 := Lib.hid (And.intro hd7 (H5.out.2.1.trans hf7 HZ0.out.1)); clear hd7 hf7
          go_wp2_with fail
          have hsc := Sync_c H7.out.1 (by rw [HS.out.2.1.2.2]; have := hR.out.2.2.ac; omega)
          rw [HS.out.2.2.1] at hsc
          refine hsc.mono ?_
          rintro e w8 ⟨rfl, hd8, hf8⟩
          have hdn := Down_c hd8
          rw [HS.out.2.2.2] at hdn
          have H8 := Lib.hid (And.intro hd8 (And.intro (H7.out.2.trans hf8 HZ0.out.1) hdn)); clear hd8 hf8 hdn hsc
          go_wp2_with fail
          refine H8.out.2.2.mono ?_
          rintro e w9 ⟨rfl, rfl⟩
          go_wp2
          go_ret
          exact ⟨rfl, H8.out.2.1⟩
        | false =>
          have er : (dRead s 0 1).2 = 0 := by unfold dRead; rw [if_neg (by rw [hoff]; exact Bool.false_ne_true), if_pos HS.out.1]
          have HE := Lib.hid (And.intro er hoff); clear er hoff
          go_wp2_with fail
          refine (Read_c hR.out.1 0 1 (by omega)).mono ?_
          rintro e w5 ⟨xv, rfl, hx⟩
          rw [HE.out.1]
          have hd5 := hR.out.1.keep hx.fp (fun _ _ h => h)
          have hx5 := hx.fp
          obtain ⟨rao, rlen, rcap, rfl⟩ := hx.shape3
          have hdn := Down_c hd5
          rw [HE.out.2] at hdn
          have H5 := Lib.hid (And.intro hd5 (And.intro (hR.out.2.1.then hx5) hdn)); clear hd5 hx hx5 hdn
          go_wp2_with fail
          refine H5.out.2.2.mono ?_
          rintro e w6 ⟨rfl, rfl⟩
          go_wp2_with fail
          refine (Crash_c H5.out.1 _ [] (Sb.nil _) (fun h => by simp at h)).mono ?_
          rintro e w7 ⟨rfl, hd7, hf7⟩
          have H7 := Lib.hid (And.intro hd7 (H5.out.2.1.trans hf7 HZ0.out.1)); clear hd7 hf7
          go_wp2_with fail
          have hsc := Sync_c H7.out.1 (by rw [HS.out.2.1.2.2]; have := hR.out.2.2.ac; omega)
          rw [HS.out.2.2.1] at hsc
          refine hsc.mono ?_
          rintro e w8 ⟨rfl, hd8, hf8⟩
          have hdn := Down_c hd8
          rw [HS.out.2.2.2] at hdn
          have H8 := Lib.hid (And.intro hd8 (And.intro (H7.out.2.trans hf8 HZ0.out.1) hdn)); clear hd8 hf8 hdn hsc
          go_wp2_with fail
          refine H8.out.2.2.mono ?_
          rintro e w9 ⟨rfl, rfl⟩
          go_wp2
          go_ret
          exact ⟨rfl, H8.out.2.1⟩

theorem SectorFuse_c (v : Value) (l : Bs) (a : Int) (qv : Value) (q : List Oq) (w : World) (hl : Sl w v l) (ha : 0 ≤ a ∧ a ≤ 255) (hq : Oqs w w.heap.size qv q) :
    Calls Try.prog 7 #[v, .int .u8 a, qv] w fun e w' => e = .returned (.bool true) ∧ Fp Non w w' := by
  obtain ⟨n, rfl⟩ := Int.eq_ofNat_of_zero_le ha.1
  by_cases h : 1 ≤ l.length / 16 ∧ l.length / 16 ≤ 4096 ∧ l.length % 16 = 0
  · by_cases h5 : l.length ≤ 5000
    · exact Fuse_some v l n qv q w hl hq (l.length / 16) h.1 h.2.1 (by omega) h5 (by omega) (n % 20) rfl
    · exact Fuse_long v l n qv q w hl hq (l.length / 16) h.1 h.2.1 (by omega) (by omega)
  · exact Fuse_none v l n qv w hl h
end Go.Proofs.Ytphjedpcebdbhaa
