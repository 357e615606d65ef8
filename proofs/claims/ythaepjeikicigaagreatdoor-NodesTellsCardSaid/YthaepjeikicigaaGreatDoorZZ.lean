/- Texts of this proof, merged. -/
import Derived.Test.YthaepjeikicigaaGreatDoorZY
/- The document's Apply, on: Delete, Set. -/
namespace Go.Proofs.YthaepjeikicigaaGreatDoor
set_option linter.unusedSimpArgs false
set_option linter.unusedVariables false
set_option maxRecDepth 20000
set_option linter.unusedVariables false
set_option linter.unusedSimpArgs false
open Go.RowKit Pm
set_option maxHeartbeats 16000000 in
theorem rApply_2 (v : Value) (l : List Nd) (p d : Bs) (vv ow : Int) (tt : Bool) (w : World) (hv : Ns w v l) (hT : Tr l) (hm : may ⟨2, p, d, vv, ow, tt⟩ = true) :
    Calls Tryz.prog 8 #[v, .agg #[.int .i64 2, .string (B p), .string (B d), .int .i64 vv, .int .i64 ow, .bool tt]] w (ApR w (perform l ⟨2, p, d, vv, ow, tt⟩).1 (perform l ⟨2, p, d, vv, ow, tt⟩).2) := by
  obtain ⟨ao, cap, rfl⟩ := hv.shape
  have hpl : p.length ≤ 1000000 := may_len2 hm
  have hrr := fun w' hv => rRightN_g (.slice ao l.length cap) l w' hv (tr_few hT).2
  rw [right_true hT.tree] at hrr
  have hmy := fun w' => rMay_c ⟨2, p, d, vv, ow, tt⟩ w' hpl
  rw [hm] at hmy
  have hfd := fun w' hv => rFind_c (.slice ao l.length cap) l p w' hv (tr_few hT).1
  have hcl := parent_ok hm
  have hln := hT.most
  rw [perform_not1 (l := l) (o := ⟨2, p, d, vv, ow, tt⟩) (by simp)]
  simp only
  have hdo : ∀ x, doit l ⟨2, p, d, vv, ow, tt⟩ x = (if kids l p = [] then (l.eraseIdx (place l p), ⟨0, [], [], 0, []⟩) else (l, .bad 64)) := fun x => by unfold doit; simp
  have HVM := Lib.hid (may_ver (.inl rfl) hm)
  have hb0 := Bx.made w 2 p d vv ow tt
  have hf0 : Fp Non w ((w.alloc (.cells #[.int .i64 2, .string (B p), .string (B d), .int .i64 vv, .int .i64 ow, .bool tt] TO_)).alloc (.cells #[.int .i64 0, .string ⟨#[]⟩, .string ⟨#[]⟩, .int .i64 0, .slice none 0 0] TR)) := (fp_alloc w _).then (fp_alloc _ _)
  have HF0 := Lib.hid (Kp.and (fun W' f => hb0.non f : Kp (Bx w 2 p d vv ow tt) ((w.alloc (.cells #[.int .i64 2, .string (B p), .string (B d), .int .i64 vv, .int .i64 ow, .bool tt] TO_)).alloc (.cells #[.int .i64 0, .string ⟨#[]⟩, .string ⟨#[]⟩, .int .i64 0, .slice none 0 0] TR))) (Kp.and (Kp.fp hf0) (Kp.ns (hv.non hf0))))
  have HRR := Lib.hid hrr
  have HMY := Lib.hid hmy
  have HT := Lib.hid hT
  have HM := Lib.hid hm
  have HVV := Lib.hid hv
  unfold opV strV at HMY
  simp only at HMY
  clear hrr hmy hf0 hb0 hv hT hm hpl
  cases hfx : find l p with
  | none =>
    rw [hfx] at hfd
    simp only [Option.getD_none, Option.isSome_none, ndV, strV, zeroNd] at hfd
    dsimp only
    obtain ⟨n, hnn⟩ : ∃ n, n = l.length := ⟨_, rfl⟩
    rw [← hnn] at HVV hfd HF0 HRR ⊢
    have HFD := Lib.hid hfd
    have HNN := Lib.hid hnn
    clear hfd hfx hnn
    go_enter Tryz.func8, Tryz.ntmps8
    go_wp2_with fail
    refine (HRR.out _ HF0.out.now.2.2).mono ?_
    rintro e w1 ⟨rfl, hf⟩
    have K1 := Lib.hid (HF0.out.later hf)
    clear hf
    obtain ⟨o0, o1, o2, o3, o4, o5⟩ := box6 K1.out.now.1.op
    go_wp2_with fail
    refine (HMY.out _).mono ?_
    rintro e w2 ⟨rfl, hf⟩
    have K2 := Lib.hid (K1.out.later hf)
    clear hf o0 o1 o2 o3 o4 o5
    obtain ⟨o0, o1, o2, o3, o4, o5⟩ := box6 K2.out.now.1.op
    go_wp2_with fail
    refine (HFD.out _ K2.out.now.2.2).mono ?_
    rintro e w3 ⟨rfl, hf⟩
    have HW3 := Lib.hid (Nat.le_trans K2.out.now.1.sz hf.size)
    have K3 := Lib.hid (K2.out.later (hf.alloc (.cells #[.string (B []), .string (B []), .int .i64 0, .int .i64 0, .int .i64 0] TN)))
    clear hf
    have hbr := K3.out.now.1
    have hfw := K3.out.now.2.1
    obtain ⟨r0, r1, r2, r3, r4⟩ := hbr.r
    have z0 := hbr.fz 0; have z1 := hbr.fz 1; have z2 := hbr.fz 2; have z3 := hbr.fz 3; have z4 := hbr.fz 4
    have HE := Lib.hid (And.intro hbr.res hfw)
    clear hbr hfw
    go_wp2
    have hw9 := set5 HE.out.1 (.int .i64 62) (.string ⟨#[]⟩) (.string ⟨#[]⟩) (.int .i64 0) (.slice none 0 0)
    have hfz := fp5 (S := Non) HE.out.2 (b := w.heap.size + 1) (.inr (by omega)) (.int .i64 62) (.string ⟨#[]⟩) (.string ⟨#[]⟩) (.int .i64 0) (.slice none 0 0)
    have hfk := fp5k HE.out.1 (.int .i64 62) (.string ⟨#[]⟩) (.string ⟨#[]⟩) (.int .i64 0) (.slice none 0 0)
    generalize (((((World.setCell _ _ _).setCell _ _).setCell _ _).setCell _ _).setCell _ _) = wz at *
    have s0 := cell_of_row _ (w.heap.size + 1) 0 _ _ _ hw9
    have s1 := cell_of_row _ (w.heap.size + 1) 1 _ _ _ hw9
    have s2 := cell_of_row _ (w.heap.size + 1) 2 _ _ _ hw9
    have s3 := cell_of_row _ (w.heap.size + 1) 3 _ _ _ hw9
    have s4 := cell_of_row _ (w.heap.size + 1) 4 _ _ _ hw9
    simp only [zA, zB, zC] at s0 s1 s2 s3 s4
    exact bodyPost_ret (v := .tuple #[.slice ao n cap, .agg #[.int .i64 62, .string ⟨#[]⟩, .string ⟨#[]⟩, .int .i64 0, .slice none 0 0]]) (by simp [results, Tryz.results8, go_sem, s0, s1, s2, s3, s4]) rfl (res_bad (HVV.out.non hfz) hfz)
  | some x =>
    rw [hfx] at hfd
    simp only [Option.getD_some, Option.isSome_some, ndV, strV] at hfd
    dsimp only
    have HFX := Lib.hid hfx
    have hft := (fits_iff x).1 (HT.out.fit x (find_mem hfx).1)
    have HFT := Lib.hid hft
    have hxv : 0 ≤ x.ver ∧ x.ver ≤ 281474976710656 := by omega
    have hch := fun w' hv => rChildren_c (.slice ao l.length cap) l p w' hv (tr_few HT.out).2 (by omega)
    obtain ⟨n, hnn⟩ : ∃ n, n = l.length := ⟨_, rfl⟩
    rw [← hnn] at HVV hfd HF0 HRR hch hln ⊢
    have HFD := Lib.hid hfd
    have HCH := Lib.hid hch
    have HNN := Lib.hid hnn
    clear hfd hfx hnn hft hch
    by_cases hver : vv ≠ -1 ∧ vv ≠ x.ver
    · rw [if_pos ⟨rfl, hver.1, hver.2⟩]
      have hvm := HVM.out
      have qv0 : (0 ≤ vv) = True := eq_true (by omega)
      have qv1 : (vv < 0) = False := eq_false (by omega)
      have qv2 : (vv == x.ver) = false := beq_eq_false_iff_ne.2 hver.2
      have qv3 : (vv != x.ver) = true := by simpa using hver.2
      have qv4 : (vv = x.ver) = False := eq_false hver.2
      clear hver hvm
      go_enter Tryz.func8, Tryz.ntmps8
      go_wp2_with fail
      refine (HRR.out _ HF0.out.now.2.2).mono ?_
      rintro e w1 ⟨rfl, hf⟩
      have K1 := Lib.hid (HF0.out.later hf)
      clear hf
      obtain ⟨o0, o1, o2, o3, o4, o5⟩ := box6 K1.out.now.1.op
      go_wp2_with fail
      refine (HMY.out _).mono ?_
      rintro e w2 ⟨rfl, hf⟩
      have K2 := Lib.hid (K1.out.later hf)
      clear hf o0 o1 o2 o3 o4 o5
      obtain ⟨o0, o1, o2, o3, o4, o5⟩ := box6 K2.out.now.1.op
      go_wp2_with fail
      refine (HFD.out _ K2.out.now.2.2).mono ?_
      rintro e w3 ⟨rfl, hf⟩
      have HW3 := Lib.hid (Nat.le_trans K2.out.now.1.sz hf.size)
      have hbx := heap_alloc_new w3 (.cells #[.string (B x.path), .string (B x.data), .int .i64 x.ver, .int .i64 x.turn, .int .i64 x.own] TN)
      have K3 := Lib.hid (Kp.and (Kp.row hbx) (K2.out.later (hf.alloc (.cells #[.string (B x.path), .string (B x.data), .int .i64 x.ver, .int .i64 x.turn, .int .i64 x.own] TN))))
      clear hf hbx o0 o1 o2 o3 o4 o5
      obtain ⟨x0, x1, x2, x3, x4⟩ := box5 K3.out.now.1
      obtain ⟨o0, o1, o2, o3, o4, o5⟩ := box6 K3.out.now.2.1.op
      have hbr := K3.out.now.2.1
      have hfw := K3.out.now.2.2.1
      obtain ⟨r0, r1, r2, r3, r4⟩ := hbr.r
      have z0 := hbr.fz 0; have z1 := hbr.fz 1; have z2 := hbr.fz 2; have z3 := hbr.fz 3; have z4 := hbr.fz 4
      have HE := Lib.hid (And.intro hbr.res hfw)
      clear hbr hfw
      go_wp2
      have hw9 := set5 HE.out.1 (.int .i64 63) (.string ⟨#[]⟩) (.string ⟨#[]⟩) (.int .i64 0) (.slice none 0 0)
      have hfz := fp5 (S := Non) HE.out.2 (b := w.heap.size + 1) (.inr (by omega)) (.int .i64 63) (.string ⟨#[]⟩) (.string ⟨#[]⟩) (.int .i64 0) (.slice none 0 0)
      have hfk := fp5k HE.out.1 (.int .i64 63) (.string ⟨#[]⟩) (.string ⟨#[]⟩) (.int .i64 0) (.slice none 0 0)
      generalize (((((World.setCell _ _ _).setCell _ _).setCell _ _).setCell _ _).setCell _ _) = wz at *
      have s0 := cell_of_row _ (w.heap.size + 1) 0 _ _ _ hw9
      have s1 := cell_of_row _ (w.heap.size + 1) 1 _ _ _ hw9
      have s2 := cell_of_row _ (w.heap.size + 1) 2 _ _ _ hw9
      have s3 := cell_of_row _ (w.heap.size + 1) 3 _ _ _ hw9
      have s4 := cell_of_row _ (w.heap.size + 1) 4 _ _ _ hw9
      simp only [zA, zB, zC] at s0 s1 s2 s3 s4
      exact bodyPost_ret (v := .tuple #[.slice ao n cap, .agg #[.int .i64 63, .string ⟨#[]⟩, .string ⟨#[]⟩, .int .i64 0, .slice none 0 0]]) (by simp [results, Tryz.results8, go_sem, s0, s1, s2, s3, s4]) rfl (res_bad (HVV.out.non hfz) hfz)
    · rw [if_neg (by rintro ⟨_, a, b⟩; exact hver ⟨a, b⟩)]
      rw [hdo]
      by_cases hv1 : vv = -1
      · subst hv1
        clear hver
        by_cases hkd : kids l p = []
        · rw [if_pos hkd]
          rw [hkd] at HCH
          have hwo := fun w' hv => rWithout_c (.slice ao l.length cap) l p w' hv (tr_few HT.out).2 (by have := HT.out.most; omega)
          rw [← HNN.out] at hwo
          have HWO := Lib.hid hwo
          clear hwo
          go_enter Tryz.func8, Tryz.ntmps8
          go_wp2_with fail
          refine (HRR.out _ HF0.out.now.2.2).mono ?_
          rintro e w1 ⟨rfl, hf⟩
          have K1 := Lib.hid (HF0.out.later hf)
          clear hf
          obtain ⟨o0, o1, o2, o3, o4, o5⟩ := box6 K1.out.now.1.op
          go_wp2_with fail
          refine (HMY.out _).mono ?_
          rintro e w2 ⟨rfl, hf⟩
          have K2 := Lib.hid (K1.out.later hf)
          clear hf o0 o1 o2 o3 o4 o5
          obtain ⟨o0, o1, o2, o3, o4, o5⟩ := box6 K2.out.now.1.op
          go_wp2_with fail
          refine (HFD.out _ K2.out.now.2.2).mono ?_
          rintro e w3 ⟨rfl, hf⟩
          have HW3 := Lib.hid (Nat.le_trans K2.out.now.1.sz hf.size)
          have hbx := heap_alloc_new w3 (.cells #[.string (B x.path), .string (B x.data), .int .i64 x.ver, .int .i64 x.turn, .int .i64 x.own] TN)
          have K3 := Lib.hid (Kp.and (Kp.row hbx) (K2.out.later (hf.alloc (.cells #[.string (B x.path), .string (B x.data), .int .i64 x.ver, .int .i64 x.turn, .int .i64 x.own] TN))))
          clear hf hbx o0 o1 o2 o3 o4 o5
          obtain ⟨x0, x1, x2, x3, x4⟩ := box5 K3.out.now.1
          obtain ⟨o0, o1, o2, o3, o4, o5⟩ := box6 K3.out.now.2.1.op
          go_wp2_with fail
          refine (HCH.out _ K3.out.now.2.2.2).mono ?_
          rintro e w4 ⟨v4, rfl, ho, hf⟩
          obtain ⟨a4, c4, rfl⟩ := ho.shape
          simp only [List.length_nil]
          have K4 := Lib.hid (Kp.and (Kp.ns ho.ns) (K3.out.later hf))
          clear ho hf x0 x1 x2 x3 x4 o0 o1 o2 o3 o4 o5
          obtain ⟨x0, x1, x2, x3, x4⟩ := box5 K4.out.now.2.1
          obtain ⟨o0, o1, o2, o3, o4, o5⟩ := box6 K4.out.now.2.2.1.op
          go_wp2_with fail
          refine (HWO.out _ K4.out.now.2.2.2.2).mono ?_
          rintro e w5 ⟨v5, rfl, ho, hf⟩
          have HO5 := Lib.hid (And.intro ho K4.out.now.2.2.1.sz)
          have K5 := Lib.hid (K4.out.later hf)
          clear ho hf x0 x1 x2 x3 x4 o0 o1 o2 o3 o4 o5
          have hbr := K5.out.now.2.2.1
          have hfw := K5.out.now.2.2.2.1
          obtain ⟨r0, r1, r2, r3, r4⟩ := hbr.r
          have z0 := hbr.fz 0; have z1 := hbr.fz 1; have z2 := hbr.fz 2; have z3 := hbr.fz 3; have z4 := hbr.fz 4
          have HE := Lib.hid (And.intro hbr.res hfw)
          clear hbr hfw
          go_wp2
          have hw9 := set5 HE.out.1 (.int .i64 0) (.string ⟨#[]⟩) (.string ⟨#[]⟩) (.int .i64 0) (.slice none 0 0)
          have hfz := fp5 (S := Non) HE.out.2 (b := w.heap.size + 1) (.inr (by omega)) (.int .i64 0) (.string ⟨#[]⟩) (.string ⟨#[]⟩) (.int .i64 0) (.slice none 0 0)
          have hfk := fp5k HE.out.1 (.int .i64 0) (.string ⟨#[]⟩) (.string ⟨#[]⟩) (.int .i64 0) (.slice none 0 0)
          generalize (((((World.setCell _ _ _).setCell _ _).setCell _ _).setCell _ _).setCell _ _) = wz at *
          have s0 := cell_of_row _ (w.heap.size + 1) 0 _ _ _ hw9
          have s1 := cell_of_row _ (w.heap.size + 1) 1 _ _ _ hw9
          have s2 := cell_of_row _ (w.heap.size + 1) 2 _ _ _ hw9
          have s3 := cell_of_row _ (w.heap.size + 1) 3 _ _ _ hw9
          have s4 := cell_of_row _ (w.heap.size + 1) 4 _ _ _ hw9
          simp only [zA, zB, zC] at s0 s1 s2 s3 s4
          exact bodyPost_ret (v := .tuple #[v5, .agg #[.int .i64 0, .string ⟨#[]⟩, .string ⟨#[]⟩, .int .i64 0, .slice none 0 0]]) (by simp [results, Tryz.results8, go_sem, s0, s1, s2, s3, s4]) rfl (⟨⟨v5, .slice none 0 0, rfl, (by rw [filter_erase HT.out.asc HFX.out]; exact HO5.out.1.ns.keep hfk (fun k hk e => by have h1 := (HO5.out.1.lt k hk).1; have h2 := HO5.out.2; omega)), Own.nil _ _⟩, hfz⟩)
        · rw [if_neg hkd]
          obtain ⟨kn, hkn⟩ : ∃ kn, kn = (kids l p).length := ⟨_, rfl⟩
          have hk1 : kn ≠ 0 := by rw [hkn]; exact fun h => hkd (List.length_eq_zero_iff.1 h)
          have qk1 : ((0 : Int) < (kn : Int)) = True := eq_true (by omega)
          have qk2 : (0 < kn) = True := eq_true (by omega)
          have HKN := Lib.hid hkn
          clear hk1 hkn hkd
          go_enter Tryz.func8, Tryz.ntmps8
          go_wp2_with fail
          refine (HRR.out _ HF0.out.now.2.2).mono ?_
          rintro e w1 ⟨rfl, hf⟩
          have K1 := Lib.hid (HF0.out.later hf)
          clear hf
          obtain ⟨o0, o1, o2, o3, o4, o5⟩ := box6 K1.out.now.1.op
          go_wp2_with fail
          refine (HMY.out _).mono ?_
          rintro e w2 ⟨rfl, hf⟩
          have K2 := Lib.hid (K1.out.later hf)
          clear hf o0 o1 o2 o3 o4 o5
          obtain ⟨o0, o1, o2, o3, o4, o5⟩ := box6 K2.out.now.1.op
          go_wp2_with fail
          refine (HFD.out _ K2.out.now.2.2).mono ?_
          rintro e w3 ⟨rfl, hf⟩
          have HW3 := Lib.hid (Nat.le_trans K2.out.now.1.sz hf.size)
          have hbx := heap_alloc_new w3 (.cells #[.string (B x.path), .string (B x.data), .int .i64 x.ver, .int .i64 x.turn, .int .i64 x.own] TN)
          have K3 := Lib.hid (Kp.and (Kp.row hbx) (K2.out.later (hf.alloc (.cells #[.string (B x.path), .string (B x.data), .int .i64 x.ver, .int .i64 x.turn, .int .i64 x.own] TN))))
          clear hf hbx o0 o1 o2 o3 o4 o5
          obtain ⟨x0, x1, x2, x3, x4⟩ := box5 K3.out.now.1
          obtain ⟨o0, o1, o2, o3, o4, o5⟩ := box6 K3.out.now.2.1.op
          go_wp2_with fail
          refine (HCH.out _ K3.out.now.2.2.2).mono ?_
          rintro e w4 ⟨v4, rfl, ho, hf⟩
          obtain ⟨a4, c4, rfl⟩ := ho.shape
          rw [← HKN.out]
          have K4 := Lib.hid (Kp.and (Kp.ns ho.ns) (K3.out.later hf))
          clear ho hf x0 x1 x2 x3 x4 o0 o1 o2 o3 o4 o5
          obtain ⟨x0, x1, x2, x3, x4⟩ := box5 K4.out.now.2.1
          obtain ⟨o0, o1, o2, o3, o4, o5⟩ := box6 K4.out.now.2.2.1.op
          have hbr := K4.out.now.2.2.1
          have hfw := K4.out.now.2.2.2.1
          obtain ⟨r0, r1, r2, r3, r4⟩ := hbr.r
          have z0 := hbr.fz 0; have z1 := hbr.fz 1; have z2 := hbr.fz 2; have z3 := hbr.fz 3; have z4 := hbr.fz 4
          have HE := Lib.hid (And.intro hbr.res hfw)
          clear hbr hfw
          go_wp2
          have hw9 := set5 HE.out.1 (.int .i64 64) (.string ⟨#[]⟩) (.string ⟨#[]⟩) (.int .i64 0) (.slice none 0 0)
          have hfz := fp5 (S := Non) HE.out.2 (b := w.heap.size + 1) (.inr (by omega)) (.int .i64 64) (.string ⟨#[]⟩) (.string ⟨#[]⟩) (.int .i64 0) (.slice none 0 0)
          have hfk := fp5k HE.out.1 (.int .i64 64) (.string ⟨#[]⟩) (.string ⟨#[]⟩) (.int .i64 0) (.slice none 0 0)
          generalize (((((World.setCell _ _ _).setCell _ _).setCell _ _).setCell _ _).setCell _ _) = wz at *
          have s0 := cell_of_row _ (w.heap.size + 1) 0 _ _ _ hw9
          have s1 := cell_of_row _ (w.heap.size + 1) 1 _ _ _ hw9
          have s2 := cell_of_row _ (w.heap.size + 1) 2 _ _ _ hw9
          have s3 := cell_of_row _ (w.heap.size + 1) 3 _ _ _ hw9
          have s4 := cell_of_row _ (w.heap.size + 1) 4 _ _ _ hw9
          simp only [zA, zB, zC] at s0 s1 s2 s3 s4
          exact bodyPost_ret (v := .tuple #[.slice ao n cap, .agg #[.int .i64 64, .string ⟨#[]⟩, .string ⟨#[]⟩, .int .i64 0, .slice none 0 0]]) (by simp [results, Tryz.results8, go_sem, s0, s1, s2, s3, s4]) rfl (res_bad (HVV.out.non hfz) hfz)
      · have hv2 : vv = x.ver := by
          rcases Classical.em (vv = x.ver) with h | h
          · exact h
          · exact absurd ⟨hv1, h⟩ hver
        have qv0 : (0 ≤ vv) = True := eq_true (by omega)
        have qv1 : (vv < 0) = False := eq_false (by omega)
        have qv2 : (vv == x.ver) = true := beq_iff_eq.2 hv2
        have qv3 : (vv != x.ver) = false := by simp [hv2]
        have qv4 : (vv = x.ver) = True := eq_true hv2
        clear hver hv1 hv2
        by_cases hkd : kids l p = []
        · rw [if_pos hkd]
          rw [hkd] at HCH
          have hwo := fun w' hv => rWithout_c (.slice ao l.length cap) l p w' hv (tr_few HT.out).2 (by have := HT.out.most; omega)
          rw [← HNN.out] at hwo
          have HWO := Lib.hid hwo
          clear hwo
          go_enter Tryz.func8, Tryz.ntmps8
          go_wp2_with fail
          refine (HRR.out _ HF0.out.now.2.2).mono ?_
          rintro e w1 ⟨rfl, hf⟩
          have K1 := Lib.hid (HF0.out.later hf)
          clear hf
          obtain ⟨o0, o1, o2, o3, o4, o5⟩ := box6 K1.out.now.1.op
          go_wp2_with fail
          refine (HMY.out _).mono ?_
          rintro e w2 ⟨rfl, hf⟩
          have K2 := Lib.hid (K1.out.later hf)
          clear hf o0 o1 o2 o3 o4 o5
          obtain ⟨o0, o1, o2, o3, o4, o5⟩ := box6 K2.out.now.1.op
          go_wp2_with fail
          refine (HFD.out _ K2.out.now.2.2).mono ?_
          rintro e w3 ⟨rfl, hf⟩
          have HW3 := Lib.hid (Nat.le_trans K2.out.now.1.sz hf.size)
          have hbx := heap_alloc_new w3 (.cells #[.string (B x.path), .string (B x.data), .int .i64 x.ver, .int .i64 x.turn, .int .i64 x.own] TN)
          have K3 := Lib.hid (Kp.and (Kp.row hbx) (K2.out.later (hf.alloc (.cells #[.string (B x.path), .string (B x.data), .int .i64 x.ver, .int .i64 x.turn, .int .i64 x.own] TN))))
          clear hf hbx o0 o1 o2 o3 o4 o5
          obtain ⟨x0, x1, x2, x3, x4⟩ := box5 K3.out.now.1
          obtain ⟨o0, o1, o2, o3, o4, o5⟩ := box6 K3.out.now.2.1.op
          go_wp2_with fail
          refine (HCH.out _ K3.out.now.2.2.2).mono ?_
          rintro e w4 ⟨v4, rfl, ho, hf⟩
          obtain ⟨a4, c4, rfl⟩ := ho.shape
          simp only [List.length_nil]
          have K4 := Lib.hid (Kp.and (Kp.ns ho.ns) (K3.out.later hf))
          clear ho hf x0 x1 x2 x3 x4 o0 o1 o2 o3 o4 o5
          obtain ⟨x0, x1, x2, x3, x4⟩ := box5 K4.out.now.2.1
          obtain ⟨o0, o1, o2, o3, o4, o5⟩ := box6 K4.out.now.2.2.1.op
          go_wp2_with fail
          refine (HWO.out _ K4.out.now.2.2.2.2).mono ?_
          rintro e w5 ⟨v5, rfl, ho, hf⟩
          have HO5 := Lib.hid (And.intro ho K4.out.now.2.2.1.sz)
          have K5 := Lib.hid (K4.out.later hf)
          clear ho hf x0 x1 x2 x3 x4 o0 o1 o2 o3 o4 o5
          have hbr := K5.out.now.2.2.1
          have hfw := K5.out.now.2.2.2.1
          obtain ⟨r0, r1, r2, r3, r4⟩ := hbr.r
          have z0 := hbr.fz 0; have z1 := hbr.fz 1; have z2 := hbr.fz 2; have z3 := hbr.fz 3; have z4 := hbr.fz 4
          have HE := Lib.hid (And.intro hbr.res hfw)
          clear hbr hfw
          go_wp2
          have hw9 := set5 HE.out.1 (.int .i64 0) (.string ⟨#[]⟩) (.string ⟨#[]⟩) (.int .i64 0) (.slice none 0 0)
          have hfz := fp5 (S := Non) HE.out.2 (b := w.heap.size + 1) (.inr (by omega)) (.int .i64 0) (.string ⟨#[]⟩) (.string ⟨#[]⟩) (.int .i64 0) (.slice none 0 0)
          have hfk := fp5k HE.out.1 (.int .i64 0) (.string ⟨#[]⟩) (.string ⟨#[]⟩) (.int .i64 0) (.slice none 0 0)
          generalize (((((World.setCell _ _ _).setCell _ _).setCell _ _).setCell _ _).setCell _ _) = wz at *
          have s0 := cell_of_row _ (w.heap.size + 1) 0 _ _ _ hw9
          have s1 := cell_of_row _ (w.heap.size + 1) 1 _ _ _ hw9
          have s2 := cell_of_row _ (w.heap.size + 1) 2 _ _ _ hw9
          have s3 := cell_of_row _ (w.heap.size + 1) 3 _ _ _ hw9
          have s4 := cell_of_row _ (w.heap.size + 1) 4 _ _ _ hw9
          simp only [zA, zB, zC] at s0 s1 s2 s3 s4
          exact bodyPost_ret (v := .tuple #[v5, .agg #[.int .i64 0, .string ⟨#[]⟩, .string ⟨#[]⟩, .int .i64 0, .slice none 0 0]]) (by simp [results, Tryz.results8, go_sem, s0, s1, s2, s3, s4]) rfl (⟨⟨v5, .slice none 0 0, rfl, (by rw [filter_erase HT.out.asc HFX.out]; exact HO5.out.1.ns.keep hfk (fun k hk e => by have h1 := (HO5.out.1.lt k hk).1; have h2 := HO5.out.2; omega)), Own.nil _ _⟩, hfz⟩)
        · rw [if_neg hkd]
          obtain ⟨kn, hkn⟩ : ∃ kn, kn = (kids l p).length := ⟨_, rfl⟩
          have hk1 : kn ≠ 0 := by rw [hkn]; exact fun h => hkd (List.length_eq_zero_iff.1 h)
          have qk1 : ((0 : Int) < (kn : Int)) = True := eq_true (by omega)
          have qk2 : (0 < kn) = True := eq_true (by omega)
          have HKN := Lib.hid hkn
          clear hk1 hkn hkd
          go_enter Tryz.func8, Tryz.ntmps8
          go_wp2_with fail
          refine (HRR.out _ HF0.out.now.2.2).mono ?_
          rintro e w1 ⟨rfl, hf⟩
          have K1 := Lib.hid (HF0.out.later hf)
          clear hf
          obtain ⟨o0, o1, o2, o3, o4, o5⟩ := box6 K1.out.now.1.op
          go_wp2_with fail
          refine (HMY.out _).mono ?_
          rintro e w2 ⟨rfl, hf⟩
          have K2 := Lib.hid (K1.out.later hf)
          clear hf o0 o1 o2 o3 o4 o5
          obtain ⟨o0, o1, o2, o3, o4, o5⟩ := box6 K2.out.now.1.op
          go_wp2_with fail
          refine (HFD.out _ K2.out.now.2.2).mono ?_
          rintro e w3 ⟨rfl, hf⟩
          have HW3 := Lib.hid (Nat.le_trans K2.out.now.1.sz hf.size)
          have hbx := heap_alloc_new w3 (.cells #[.string (B x.path), .string (B x.data), .int .i64 x.ver, .int .i64 x.turn, .int .i64 x.own] TN)
          have K3 := Lib.hid (Kp.and (Kp.row hbx) (K2.out.later (hf.alloc (.cells #[.string (B x.path), .string (B x.data), .int .i64 x.ver, .int .i64 x.turn, .int .i64 x.own] TN))))
          clear hf hbx o0 o1 o2 o3 o4 o5
          obtain ⟨x0, x1, x2, x3, x4⟩ := box5 K3.out.now.1
          obtain ⟨o0, o1, o2, o3, o4, o5⟩ := box6 K3.out.now.2.1.op
          go_wp2_with fail
          refine (HCH.out _ K3.out.now.2.2.2).mono ?_
          rintro e w4 ⟨v4, rfl, ho, hf⟩
          obtain ⟨a4, c4, rfl⟩ := ho.shape
          rw [← HKN.out]
          have K4 := Lib.hid (Kp.and (Kp.ns ho.ns) (K3.out.later hf))
          clear ho hf x0 x1 x2 x3 x4 o0 o1 o2 o3 o4 o5
          obtain ⟨x0, x1, x2, x3, x4⟩ := box5 K4.out.now.2.1
          obtain ⟨o0, o1, o2, o3, o4, o5⟩ := box6 K4.out.now.2.2.1.op
          have hbr := K4.out.now.2.2.1
          have hfw := K4.out.now.2.2.2.1
          obtain ⟨r0, r1, r2, r3, r4⟩ := hbr.r
          have z0 := hbr.fz 0; have z1 := hbr.fz 1; have z2 := hbr.fz 2; have z3 := hbr.fz 3; have z4 := hbr.fz 4
          have HE := Lib.hid (And.intro hbr.res hfw)
          clear hbr hfw
          go_wp2
          have hw9 := set5 HE.out.1 (.int .i64 64) (.string ⟨#[]⟩) (.string ⟨#[]⟩) (.int .i64 0) (.slice none 0 0)
          have hfz := fp5 (S := Non) HE.out.2 (b := w.heap.size + 1) (.inr (by omega)) (.int .i64 64) (.string ⟨#[]⟩) (.string ⟨#[]⟩) (.int .i64 0) (.slice none 0 0)
          have hfk := fp5k HE.out.1 (.int .i64 64) (.string ⟨#[]⟩) (.string ⟨#[]⟩) (.int .i64 0) (.slice none 0 0)
          generalize (((((World.setCell _ _ _).setCell _ _).setCell _ _).setCell _ _).setCell _ _) = wz at *
          have s0 := cell_of_row _ (w.heap.size + 1) 0 _ _ _ hw9
          have s1 := cell_of_row _ (w.heap.size + 1) 1 _ _ _ hw9
          have s2 := cell_of_row _ (w.heap.size + 1) 2 _ _ _ hw9
          have s3 := cell_of_row _ (w.heap.size + 1) 3 _ _ _ hw9
          have s4 := cell_of_row _ (w.heap.size + 1) 4 _ _ _ hw9
          simp only [zA, zB, zC] at s0 s1 s2 s3 s4
          exact bodyPost_ret (v := .tuple #[.slice ao n cap, .agg #[.int .i64 64, .string ⟨#[]⟩, .string ⟨#[]⟩, .int .i64 0, .slice none 0 0]]) (by simp [results, Tryz.results8, go_sem, s0, s1, s2, s3, s4]) rfl (res_bad (HVV.out.non hfz) hfz)
end Go.Proofs.YthaepjeikicigaaGreatDoor
