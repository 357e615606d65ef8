/- Texts of this proof, merged. -/
import Derived.Test.YthaepjeikicigaaGreatDoorZY
/- The document's Apply, on: List, Sweep. -/
namespace Go.Proofs.YthaepjeikicigaaGreatDoor
set_option linter.unusedSimpArgs false
set_option linter.unusedVariables false
set_option maxRecDepth 20000
set_option linter.unusedVariables false
set_option linter.unusedSimpArgs false
open Go.RowKit Pm
set_option maxHeartbeats 16000000 in
theorem rApply_6 (v : Value) (l : List Nd) (p d : Bs) (vv ow : Int) (tt : Bool) (w : World) (hv : Ns w v l) (hT : Tr l) (hm : may ⟨6, p, d, vv, ow, tt⟩ = true) :
    Calls Tryz.prog 8 #[v, .agg #[.int .i64 6, .string (B p), .string (B d), .int .i64 vv, .int .i64 ow, .bool tt]] w (ApR w (perform l ⟨6, p, d, vv, ow, tt⟩).1 (perform l ⟨6, p, d, vv, ow, tt⟩).2) := by
  obtain ⟨ao, cap, rfl⟩ := hv.shape
  have hpl : p.length ≤ 1000000 := may_len2 hm
  have hrr := fun w' hv => rRightN_g (.slice ao l.length cap) l w' hv (tr_few hT).2
  rw [right_true hT.tree] at hrr
  have hmy := fun w' => rMay_c ⟨6, p, d, vv, ow, tt⟩ w' hpl
  rw [hm] at hmy
  have hfd := fun w' hv => rFind_c (.slice ao l.length cap) l p w' hv (tr_few hT).1
  have hcl := parent_ok hm
  have hln := hT.most
  rw [perform_not1 (l := l) (o := ⟨6, p, d, vv, ow, tt⟩) (by simp)]
  simp only
  have hdo : ∀ x, doit l ⟨6, p, d, vv, ow, tt⟩ x = (l, ⟨0, [], [], 0, (kids l p).map (fun n => last n.path)⟩) := fun x => by unfold doit; simp
  have hb0 := Bx.made w 6 p d vv ow tt
  have hf0 : Fp Non w ((w.alloc (.cells #[.int .i64 6, .string (B p), .string (B d), .int .i64 vv, .int .i64 ow, .bool tt] TO_)).alloc (.cells #[.int .i64 0, .string ⟨#[]⟩, .string ⟨#[]⟩, .int .i64 0, .slice none 0 0] TR)) := (fp_alloc w _).then (fp_alloc _ _)
  have HF0 := Lib.hid (Kp.and (fun W' f => hb0.non f : Kp (Bx w 6 p d vv ow tt) ((w.alloc (.cells #[.int .i64 6, .string (B p), .string (B d), .int .i64 vv, .int .i64 ow, .bool tt] TO_)).alloc (.cells #[.int .i64 0, .string ⟨#[]⟩, .string ⟨#[]⟩, .int .i64 0, .slice none 0 0] TR))) (Kp.and (Kp.fp hf0) (Kp.ns (hv.non hf0))))
  have HRR := Lib.hid hrr
  have HMY := Lib.hid hmy
  have HT := Lib.hid hT
  have HM := Lib.hid hm
  have HVV := Lib.hid hv
  unfold opV strV at HMY
  simp only at HMY
  clear hrr hmy hf0 hb0 hv hT hm hpl
  cases hfx : find l p with
  | none =>
    rw [hfx] at hfd
    simp only [Option.getD_none, Option.isSome_none, ndV, strV, zeroNd] at hfd
    dsimp only
    obtain ⟨n, hnn⟩ : ∃ n, n = l.length := ⟨_, rfl⟩
    rw [← hnn] at HVV hfd HF0 HRR ⊢
    have HFD := Lib.hid hfd
    have HNN := Lib.hid hnn
    clear hfd hfx hnn
    go_enter Tryz.func8, Tryz.ntmps8
    go_wp2_with fail
    refine (HRR.out _ HF0.out.now.2.2).mono ?_
    rintro e w1 ⟨rfl, hf⟩
    have K1 := Lib.hid (HF0.out.later hf)
    clear hf
    obtain ⟨o0, o1, o2, o3, o4, o5⟩ := box6 K1.out.now.1.op
    go_wp2_with fail
    refine (HMY.out _).mono ?_
    rintro e w2 ⟨rfl, hf⟩
    have K2 := Lib.hid (K1.out.later hf)
    clear hf o0 o1 o2 o3 o4 o5
    obtain ⟨o0, o1, o2, o3, o4, o5⟩ := box6 K2.out.now.1.op
    go_wp2_with fail
    refine (HFD.out _ K2.out.now.2.2).mono ?_
    rintro e w3 ⟨rfl, hf⟩
    have HW3 := Lib.hid (Nat.le_trans K2.out.now.1.sz hf.size)
    have K3 := Lib.hid (K2.out.later (hf.alloc (.cells #[.string (B []), .string (B []), .int .i64 0, .int .i64 0, .int .i64 0] TN)))
    clear hf
    have hbr := K3.out.now.1
    have hfw := K3.out.now.2.1
    obtain ⟨r0, r1, r2, r3, r4⟩ := hbr.r
    have z0 := hbr.fz 0; have z1 := hbr.fz 1; have z2 := hbr.fz 2; have z3 := hbr.fz 3; have z4 := hbr.fz 4
    have HE := Lib.hid (And.intro hbr.res hfw)
    clear hbr hfw
    go_wp2
    have hw9 := set5 HE.out.1 (.int .i64 62) (.string ⟨#[]⟩) (.string ⟨#[]⟩) (.int .i64 0) (.slice none 0 0)
    have hfz := fp5 (S := Non) HE.out.2 (b := w.heap.size + 1) (.inr (by omega)) (.int .i64 62) (.string ⟨#[]⟩) (.string ⟨#[]⟩) (.int .i64 0) (.slice none 0 0)
    have hfk := fp5k HE.out.1 (.int .i64 62) (.string ⟨#[]⟩) (.string ⟨#[]⟩) (.int .i64 0) (.slice none 0 0)
    generalize (((((World.setCell _ _ _).setCell _ _).setCell _ _).setCell _ _).setCell _ _) = wz at *
    have s0 := cell_of_row _ (w.heap.size + 1) 0 _ _ _ hw9
    have s1 := cell_of_row _ (w.heap.size + 1) 1 _ _ _ hw9
    have s2 := cell_of_row _ (w.heap.size + 1) 2 _ _ _ hw9
    have s3 := cell_of_row _ (w.heap.size + 1) 3 _ _ _ hw9
    have s4 := cell_of_row _ (w.heap.size + 1) 4 _ _ _ hw9
    simp only [zA, zB, zC] at s0 s1 s2 s3 s4
    exact bodyPost_ret (v := .tuple #[.slice ao n cap, .agg #[.int .i64 62, .string ⟨#[]⟩, .string ⟨#[]⟩, .int .i64 0, .slice none 0 0]]) (by simp [results, Tryz.results8, go_sem, s0, s1, s2, s3, s4]) rfl (res_bad (HVV.out.non hfz) hfz)
  | some x =>
    rw [hfx] at hfd
    simp only [Option.getD_some, Option.isSome_some, ndV, strV] at hfd
    dsimp only
    have HFX := Lib.hid hfx
    have hft := (fits_iff x).1 (HT.out.fit x (find_mem hfx).1)
    have HFT := Lib.hid hft
    have hxv : 0 ≤ x.ver ∧ x.ver ≤ 281474976710656 := by omega
    have hch := fun w' hv => rChildren_c (.slice ao l.length cap) l p w' hv (tr_few HT.out).2 (by omega)
    obtain ⟨n, hnn⟩ : ∃ n, n = l.length := ⟨_, rfl⟩
    rw [← hnn] at HVV hfd HF0 HRR hch hln ⊢
    have HFD := Lib.hid hfd
    have HCH := Lib.hid hch
    have HNN := Lib.hid hnn
    clear hfd hfx hnn hft hch
    rw [if_neg (by simp [versioned]), hdo]
    go_enter Tryz.func8, Tryz.ntmps8
    go_wp2_with fail
    refine (HRR.out _ HF0.out.now.2.2).mono ?_
    rintro e w1 ⟨rfl, hf⟩
    have K1 := Lib.hid (HF0.out.later hf)
    clear hf
    obtain ⟨o0, o1, o2, o3, o4, o5⟩ := box6 K1.out.now.1.op
    go_wp2_with fail
    refine (HMY.out _).mono ?_
    rintro e w2 ⟨rfl, hf⟩
    have K2 := Lib.hid (K1.out.later hf)
    clear hf o0 o1 o2 o3 o4 o5
    obtain ⟨o0, o1, o2, o3, o4, o5⟩ := box6 K2.out.now.1.op
    go_wp2_with fail
    refine (HFD.out _ K2.out.now.2.2).mono ?_
    rintro e w3 ⟨rfl, hf⟩
    have HW3 := Lib.hid (Nat.le_trans K2.out.now.1.sz hf.size)
    have hbx := heap_alloc_new w3 (.cells #[.string (B x.path), .string (B x.data), .int .i64 x.ver, .int .i64 x.turn, .int .i64 x.own] TN)
    have K3 := Lib.hid (Kp.and (Kp.row hbx) (K2.out.later (hf.alloc (.cells #[.string (B x.path), .string (B x.data), .int .i64 x.ver, .int .i64 x.turn, .int .i64 x.own] TN))))
    clear hf hbx o0 o1 o2 o3 o4 o5
    obtain ⟨x0, x1, x2, x3, x4⟩ := box5 K3.out.now.1
    obtain ⟨o0, o1, o2, o3, o4, o5⟩ := box6 K3.out.now.2.1.op
    go_wp2_with fail
    refine (HCH.out _ K3.out.now.2.2.2).mono ?_
    rintro e w4 ⟨v4, rfl, ho, hf⟩
    obtain ⟨a4, c4, rfl⟩ := ho.shape
    have K4 := Lib.hid (Kp.and (Kp.ns ho.ns) (K3.out.later hf))
    clear ho hf x0 x1 x2 x3 x4 o0 o1 o2 o3 o4 o5
    obtain ⟨x0, x1, x2, x3, x4⟩ := box5 K4.out.now.2.1
    obtain ⟨o0, o1, o2, o3, o4, o5⟩ := box6 K4.out.now.2.2.1.op
    obtain ⟨ks, hks⟩ : ∃ ks, ks = kids l p := ⟨_, rfl⟩
    rw [← hks] at K4 ⊢
    have HKS := Lib.hid hks
    obtain ⟨kn, hkn⟩ : ∃ kn, kn = ks.length := ⟨_, rfl⟩
    rw [← hkn] at K4 ⊢
    have HKN := Lib.hid hkn
    have hkb : kn ≤ 512 := by rw [hkn, hks]; exact Nat.le_trans (List.length_filter_le _ _) HT.out.most
    have hsp : Sp ks := by rw [hks]; exact fun x hx => (tr_few HT.out).2 x (List.mem_filter.1 hx).1
    have HSP := Lib.hid hsp
    have HW4 := Lib.hid K4.out.now.2.2.1.sz
    clear hks hkn hsp x0 x1 x2 x3 x4
    have H0 : Hid (Own w4.heap.size w4 (.slice none 0 0) ((ks.take 0).map (fun n => last n.path)) ∧ Fp Non w4 w4) := ⟨by rw [List.take_zero]; exact Own.nil _ _, Fp.refl _ _⟩
    go_wp2_with fail
    clear o0 o1 o2 o3 o4 o5
    go_loopw [0, 10, 11] (fun lv nv i wr => ∃ j : Nat, j ≤ kn ∧ i = .int .i64 j ∧ lv = .slice ao n cap ∧ Hid (Own w4.heap.size wr nv ((ks.take j).map (fun n => last n.path)) ∧ Fp Non w4 wr)) (fun _ _ i _ => kn - (RowKit.intOf i).toNat)
    case atStart => exact ⟨0, Nat.zero_le _, rfl, rfl, H0⟩
    case round =>
      clear H0
      obtain ⟨j, hj, rfl, rfl, hR⟩ := hrel
      rename_i wr _
      have HK := Lib.hid (K4.out.later hR.out.2)
      obtain ⟨o0, o1, o2, o3, o4, o5⟩ := box6 HK.out.now.2.2.1.op
      obtain ⟨nao, ncap, rfl⟩ := hR.out.1.shape
      by_cases hlt : j < kn
      · have hkl : j < ks.length := by rw [← HKN.out]; exact hlt
        obtain ⟨g, o, cap', e, _, _, _, hcell⟩ := HK.out.now.1.at (by omega)
        injection e with e1 e2 e3
        subst e1 e3
        clear e2
        have hnd := hcell j hkl
        have hxs := HSP.out _ (List.getElem_mem hkl)
        have htk : ks.take (j + 1) = ks.take j ++ [ks[j]] := List.take_succ_eq_append_getElem hkl
        have hnl : ((ks.take j).map (fun n => last n.path)).length ≤ 512 := by
          rw [List.length_map]
          exact Nat.le_trans (by rw [List.length_take]; omega) hkb
        generalize ks[j] = x at *
        have hla := fun w => rLast_g x.path w (sz_of hxs (by omega))
        have HLA := Lib.hid hla
        have HND := Lib.hid hnd
        have HTK := Lib.hid htk
        have HNL := Lib.hid hnl
        have HL := Lib.hid hlt
        have q3 : ((j : Int) < (kn : Int)) = True := eq_true (by omega)
        have q4 : (j < kn) = True := eq_true hlt
        have c0 := hnd.c0; have c4' := hnd.c4
        unfold strV at c0
        clear hla hnd htk hcell hxs hkl hlt
        obtain ⟨ps, hps⟩ : ∃ ps, ps = ((ks.take j).map (fun n => last n.path)) := ⟨_, rfl⟩
        rw [← hps] at hnl ⊢
        have HPS := Lib.hid hps
        clear hnl
        clear hps
        go_wp2_with fail
        refine (HLA.out _).mono ?_
        rintro e w6 ⟨rfl, g6⟩
        have F6 := Lib.hid (hR.out.2.then g6.fp)
        have hown6 : Own w4.heap.size w6 (.slice nao ps.length ncap) ps := by
          have := hR.out.1.grown' ((show Fp Non wr w6 from g6.fp))
          rw [← HPS.out] at this; exact this
        have hap := app_name w6 w4.heap.size _ ps (last x.path) TSs hown6 (by have := HNL.out; rw [← HPS.out] at this; omega) F6.out.size
        have HAP := Lib.hid hap
        clear g6 hown6 hap
        go_wp2_with (at_builtin; go_must (refine wpList_app rfl _ _ _ _ rfl _ _ rfl rfl _ HAP.out ?_))
        intro v7 w7 hR7
        have HR7 := Lib.hid (And.intro hR7.own (F6.out.trans hR7.fp (fun k hk => .inr hk)))
        clear hR7 o0 o1 o2 o3 o4 o5 c0 c4'
        have hj1 := HL.out
        go_wp2
        go_roundw
        case rel => exact ⟨j + 1, by omega, by go_num, rfl, ⟨by rw [HTK.out, List.map_append]; have := HR7.out.1; rw [HPS.out] at this; exact this, HR7.out.2⟩⟩
        case measure => simp [RowKit.intOf]; omega
      · have hke : j = kn := by omega
        subst hke
        have q3 : ((j : Int) < (j : Int)) = False := eq_false (by omega)
        have hown := hR.out.1
        rw [List.take_of_length_le (by rw [← HKN.out]; exact Nat.le_refl _)] at hown ⊢
        obtain ⟨nl, hnl⟩ : ∃ nl, nl = (ks.map (fun n => last n.path)).length := ⟨_, rfl⟩
        rw [← hnl] at hown ⊢
        have HOW := Lib.hid hown
        clear hlt hj hown hnl o0 o1 o2 o3 o4 o5
        have hbr := HK.out.now.2.2.1
        have hfw := HK.out.now.2.2.2.1
        obtain ⟨r0, r1, r2, r3, r4⟩ := hbr.r
        have z0 := hbr.fz 0; have z1 := hbr.fz 1; have z2 := hbr.fz 2; have z3 := hbr.fz 3; have z4 := hbr.fz 4
        have HE := Lib.hid (And.intro hbr.res hfw)
        clear hbr hfw
        go_wp2
        have hw9 := set5 HE.out.1 (.int .i64 0) (.string ⟨#[]⟩) (.string ⟨#[]⟩) (.int .i64 0) (.slice nao nl ncap)
        have hfz := fp5 (S := Non) HE.out.2 (b := w.heap.size + 1) (.inr (by omega)) (.int .i64 0) (.string ⟨#[]⟩) (.string ⟨#[]⟩) (.int .i64 0) (.slice nao nl ncap)
        have hfk := fp5k HE.out.1 (.int .i64 0) (.string ⟨#[]⟩) (.string ⟨#[]⟩) (.int .i64 0) (.slice nao nl ncap)
        generalize (((((World.setCell _ _ _).setCell _ _).setCell _ _).setCell _ _).setCell _ _) = wz at *
        have s0 := cell_of_row _ (w.heap.size + 1) 0 _ _ _ hw9
        have s1 := cell_of_row _ (w.heap.size + 1) 1 _ _ _ hw9
        have s2 := cell_of_row _ (w.heap.size + 1) 2 _ _ _ hw9
        have s3 := cell_of_row _ (w.heap.size + 1) 3 _ _ _ hw9
        have s4 := cell_of_row _ (w.heap.size + 1) 4 _ _ _ hw9
        simp only [zA, zB, zC] at s0 s1 s2 s3 s4
        exact bodyPost_ret (v := .tuple #[.slice ao n cap, .agg #[.int .i64 0, .string ⟨#[]⟩, .string ⟨#[]⟩, .int .i64 0, .slice nao nl ncap]]) (by simp [results, Tryz.results8, go_sem, s0, s1, s2, s3, s4]) rfl (⟨⟨.slice ao n cap, .slice nao nl ncap, rfl, HVV.out.non hfz, by (show Own w.heap.size wz _ ((kids l p).map (fun n => last n.path))); rw [← HKS.out]; exact Own.low ⟨hfk.owns HOW.out.1 (fun k hk e => by have e : k = w.heap.size + 1 := e; have h1 := (HOW.out.1.lt k hk).1; have h2 := HW4.out; omega), HOW.out.2⟩ (by have h2 := HW4.out; omega)⟩, hfz⟩)
end Go.Proofs.YthaepjeikicigaaGreatDoor
