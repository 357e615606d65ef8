/- Texts of this proof, merged. -/
import Derived.Test.YthaepjeikicigaaGreatDoorZY
/- The document's Apply, on: Set. -/
namespace Go.Proofs.YthaepjeikicigaaGreatDoor
set_option linter.unusedSimpArgs false
set_option linter.unusedVariables false
set_option maxRecDepth 20000
set_option linter.unusedVariables false
set_option linter.unusedSimpArgs false
open Go.RowKit Pm
theorem Kp.bx {w W : World} {kk : Int} {p d : Bs} {v ow : Int} {t : Bool} (h : Bx w kk p d v ow t W) : Kp (Bx w kk p d v ow t) W := fun W' f => h.non f
theorem put_set2 {l : List Nd} (h : Tr l) {u : Bs} {x : Nd} (hx : find l u = some x) (d : Bs) (v : Int) : put l { x with data := d, ver := v } = l.set (place l u) { x with data := d, ver := v } := by
  obtain ⟨hk, e⟩ := find_at h.asc hx
  have hp := (find_mem hx).2
  have hk2 : place l x.path < l.length := by rw [hp]; exact hk
  have e2 : l[place l x.path]'hk2 = x := by simp only [hp]; exact e
  have := put_set h.asc { x with data := d, ver := v } hk2 (by rw [e2])
  rw [this]; simp only [hp]
set_option maxHeartbeats 16000000 in
theorem rApply_3 (v : Value) (l : List Nd) (p d : Bs) (vv ow : Int) (tt : Bool) (w : World) (hv : Ns w v l) (hT : Tr l) (hm : may ⟨3, p, d, vv, ow, tt⟩ = true) :
    Calls Tryz.prog 8 #[v, .agg #[.int .i64 3, .string (B p), .string (B d), .int .i64 vv, .int .i64 ow, .bool tt]] w (ApR w (perform l ⟨3, p, d, vv, ow, tt⟩).1 (perform l ⟨3, p, d, vv, ow, tt⟩).2) := by
  obtain ⟨ao, cap, rfl⟩ := hv.shape
  have hpl : p.length ≤ 1000000 := may_len2 hm
  have hrr := fun w' hv => rRightN_g (.slice ao l.length cap) l w' hv (tr_few hT).2
  rw [right_true hT.tree] at hrr
  have hmy := fun w' => rMay_c ⟨3, p, d, vv, ow, tt⟩ w' hpl
  rw [hm] at hmy
  have hfd := fun w' hv => rFind_c (.slice ao l.length cap) l p w' hv (tr_few hT).1
  have hcl := parent_ok hm
  have hln := hT.most
  rw [perform_not1 (l := l) (o := ⟨3, p, d, vv, ow, tt⟩) (by simp)]
  simp only
  have hdo : ∀ x, doit l ⟨3, p, d, vv, ow, tt⟩ x = (if x.ver = 281474976710656 then (l, .bad 2) else (l.set (place l p) { x with data := d, ver := x.ver + 1 }, ⟨0, [], [], x.ver + 1, []⟩)) := fun x => by unfold doit; simp
  have HVM := Lib.hid (may_ver (.inr (.inl rfl)) hm)
  have hb0 := Bx.made w 3 p d vv ow tt
  have hf0 : Fp Non w ((w.alloc (.cells #[.int .i64 3, .string (B p), .string (B d), .int .i64 vv, .int .i64 ow, .bool tt] TO_)).alloc (.cells #[.int .i64 0, .string ⟨#[]⟩, .string ⟨#[]⟩, .int .i64 0, .slice none 0 0] TR)) := (fp_alloc w _).then (fp_alloc _ _)
  have HF0 := Lib.hid (Kp.and (fun W' f => hb0.non f : Kp (Bx w 3 p d vv ow tt) ((w.alloc (.cells #[.int .i64 3, .string (B p), .string (B d), .int .i64 vv, .int .i64 ow, .bool tt] TO_)).alloc (.cells #[.int .i64 0, .string ⟨#[]⟩, .string ⟨#[]⟩, .int .i64 0, .slice none 0 0] TR))) (Kp.and (Kp.fp hf0) (Kp.ns (hv.non hf0))))
  have HRR := Lib.hid hrr
  have HMY := Lib.hid hmy
  have HT := Lib.hid hT
  have HM := Lib.hid hm
  have HVV := Lib.hid hv
  unfold opV strV at HMY
  simp only at HMY
  clear hrr hmy hf0 hb0 hv hT hm hpl
  cases hfx : find l p with
  | none =>
    rw [hfx] at hfd
    simp only [Option.getD_none, Option.isSome_none, ndV, strV, zeroNd] at hfd
    dsimp only
    obtain ⟨n, hnn⟩ : ∃ n, n = l.length := ⟨_, rfl⟩
    rw [← hnn] at HVV hfd HF0 HRR ⊢
    have HFD := Lib.hid hfd
    have HNN := Lib.hid hnn
    clear hfd hfx hnn
    go_enter Tryz.func8, Tryz.ntmps8
    go_wp2_with fail
    refine (HRR.out _ HF0.out.now.2.2).mono ?_
    rintro e w1 ⟨rfl, hf⟩
    have K1 := Lib.hid (HF0.out.later hf)
    clear hf
    obtain ⟨o0, o1, o2, o3, o4, o5⟩ := box6 K1.out.now.1.op
    go_wp2_with fail
    refine (HMY.out _).mono ?_
    rintro e w2 ⟨rfl, hf⟩
    have K2 := Lib.hid (K1.out.later hf)
    clear hf o0 o1 o2 o3 o4 o5
    obtain ⟨o0, o1, o2, o3, o4, o5⟩ := box6 K2.out.now.1.op
    go_wp2_with fail
    refine (HFD.out _ K2.out.now.2.2).mono ?_
    rintro e w3 ⟨rfl, hf⟩
    have HW3 := Lib.hid (Nat.le_trans K2.out.now.1.sz hf.size)
    have K3 := Lib.hid (K2.out.later (hf.alloc (.cells #[.string (B []), .string (B []), .int .i64 0, .int .i64 0, .int .i64 0] TN)))
    clear hf
    have hbr := K3.out.now.1
    have hfw := K3.out.now.2.1
    obtain ⟨r0, r1, r2, r3, r4⟩ := hbr.r
    have z0 := hbr.fz 0; have z1 := hbr.fz 1; have z2 := hbr.fz 2; have z3 := hbr.fz 3; have z4 := hbr.fz 4
    have HE := Lib.hid (And.intro hbr.res hfw)
    clear hbr hfw
    go_wp2
    have hw9 := set5 HE.out.1 (.int .i64 62) (.string ⟨#[]⟩) (.string ⟨#[]⟩) (.int .i64 0) (.slice none 0 0)
    have hfz := fp5 (S := Non) HE.out.2 (b := w.heap.size + 1) (.inr (by omega)) (.int .i64 62) (.string ⟨#[]⟩) (.string ⟨#[]⟩) (.int .i64 0) (.slice none 0 0)
    have hfk := fp5k HE.out.1 (.int .i64 62) (.string ⟨#[]⟩) (.string ⟨#[]⟩) (.int .i64 0) (.slice none 0 0)
    generalize (((((World.setCell _ _ _).setCell _ _).setCell _ _).setCell _ _).setCell _ _) = wz at *
    have s0 := cell_of_row _ (w.heap.size + 1) 0 _ _ _ hw9
    have s1 := cell_of_row _ (w.heap.size + 1) 1 _ _ _ hw9
    have s2 := cell_of_row _ (w.heap.size + 1) 2 _ _ _ hw9
    have s3 := cell_of_row _ (w.heap.size + 1) 3 _ _ _ hw9
    have s4 := cell_of_row _ (w.heap.size + 1) 4 _ _ _ hw9
    simp only [zA, zB, zC] at s0 s1 s2 s3 s4
    exact bodyPost_ret (v := .tuple #[.slice ao n cap, .agg #[.int .i64 62, .string ⟨#[]⟩, .string ⟨#[]⟩, .int .i64 0, .slice none 0 0]]) (by simp [results, Tryz.results8, go_sem, s0, s1, s2, s3, s4]) rfl (res_bad (HVV.out.non hfz) hfz)
  | some x =>
    rw [hfx] at hfd
    simp only [Option.getD_some, Option.isSome_some, ndV, strV] at hfd
    dsimp only
    have HFX := Lib.hid hfx
    have hft := (fits_iff x).1 (HT.out.fit x (find_mem hfx).1)
    have HFT := Lib.hid hft
    have hxv : 0 ≤ x.ver ∧ x.ver ≤ 281474976710656 := by omega
    have hch := fun w' hv => rChildren_c (.slice ao l.length cap) l p w' hv (tr_few HT.out).2 (by omega)
    obtain ⟨n, hnn⟩ : ∃ n, n = l.length := ⟨_, rfl⟩
    rw [← hnn] at HVV hfd HF0 HRR hch hln ⊢
    have HFD := Lib.hid hfd
    have HCH := Lib.hid hch
    have HNN := Lib.hid hnn
    clear hfd hfx hnn hft hch
    by_cases hver : vv ≠ -1 ∧ vv ≠ x.ver
    · rw [if_pos ⟨rfl, hver.1, hver.2⟩]
      have hvm := HVM.out
      have qv0 : (0 ≤ vv) = True := eq_true (by omega)
      have qv1 : (vv < 0) = False := eq_false (by omega)
      have qv2 : (vv == x.ver) = false := beq_eq_false_iff_ne.2 hver.2
      have qv3 : (vv != x.ver) = true := by simpa using hver.2
      have qv4 : (vv = x.ver) = False := eq_false hver.2
      clear hver hvm
      go_enter Tryz.func8, Tryz.ntmps8
      go_wp2_with fail
      refine (HRR.out _ HF0.out.now.2.2).mono ?_
      rintro e w1 ⟨rfl, hf⟩
      have K1 := Lib.hid (HF0.out.later hf)
      clear hf
      obtain ⟨o0, o1, o2, o3, o4, o5⟩ := box6 K1.out.now.1.op
      go_wp2_with fail
      refine (HMY.out _).mono ?_
      rintro e w2 ⟨rfl, hf⟩
      have K2 := Lib.hid (K1.out.later hf)
      clear hf o0 o1 o2 o3 o4 o5
      obtain ⟨o0, o1, o2, o3, o4, o5⟩ := box6 K2.out.now.1.op
      go_wp2_with fail
      refine (HFD.out _ K2.out.now.2.2).mono ?_
      rintro e w3 ⟨rfl, hf⟩
      have HW3 := Lib.hid (Nat.le_trans K2.out.now.1.sz hf.size)
      have hbx := heap_alloc_new w3 (.cells #[.string (B x.path), .string (B x.data), .int .i64 x.ver, .int .i64 x.turn, .int .i64 x.own] TN)
      have K3 := Lib.hid (Kp.and (Kp.row hbx) (K2.out.later (hf.alloc (.cells #[.string (B x.path), .string (B x.data), .int .i64 x.ver, .int .i64 x.turn, .int .i64 x.own] TN))))
      clear hf hbx o0 o1 o2 o3 o4 o5
      obtain ⟨x0, x1, x2, x3, x4⟩ := box5 K3.out.now.1
      obtain ⟨o0, o1, o2, o3, o4, o5⟩ := box6 K3.out.now.2.1.op
      have hbr := K3.out.now.2.1
      have hfw := K3.out.now.2.2.1
      obtain ⟨r0, r1, r2, r3, r4⟩ := hbr.r
      have z0 := hbr.fz 0; have z1 := hbr.fz 1; have z2 := hbr.fz 2; have z3 := hbr.fz 3; have z4 := hbr.fz 4
      have HE := Lib.hid (And.intro hbr.res hfw)
      clear hbr hfw
      go_wp2
      have hw9 := set5 HE.out.1 (.int .i64 63) (.string ⟨#[]⟩) (.string ⟨#[]⟩) (.int .i64 0) (.slice none 0 0)
      have hfz := fp5 (S := Non) HE.out.2 (b := w.heap.size + 1) (.inr (by omega)) (.int .i64 63) (.string ⟨#[]⟩) (.string ⟨#[]⟩) (.int .i64 0) (.slice none 0 0)
      have hfk := fp5k HE.out.1 (.int .i64 63) (.string ⟨#[]⟩) (.string ⟨#[]⟩) (.int .i64 0) (.slice none 0 0)
      generalize (((((World.setCell _ _ _).setCell _ _).setCell _ _).setCell _ _).setCell _ _) = wz at *
      have s0 := cell_of_row _ (w.heap.size + 1) 0 _ _ _ hw9
      have s1 := cell_of_row _ (w.heap.size + 1) 1 _ _ _ hw9
      have s2 := cell_of_row _ (w.heap.size + 1) 2 _ _ _ hw9
      have s3 := cell_of_row _ (w.heap.size + 1) 3 _ _ _ hw9
      have s4 := cell_of_row _ (w.heap.size + 1) 4 _ _ _ hw9
      simp only [zA, zB, zC] at s0 s1 s2 s3 s4
      exact bodyPost_ret (v := .tuple #[.slice ao n cap, .agg #[.int .i64 63, .string ⟨#[]⟩, .string ⟨#[]⟩, .int .i64 0, .slice none 0 0]]) (by simp [results, Tryz.results8, go_sem, s0, s1, s2, s3, s4]) rfl (res_bad (HVV.out.non hfz) hfz)
    · rw [if_neg (by rintro ⟨_, a, b⟩; exact hver ⟨a, b⟩)]
      rw [hdo]
      by_cases hv1 : vv = -1
      · subst hv1
        clear hver
        by_cases hmx : x.ver = 281474976710656
        · rw [if_pos hmx]
          have qm1 : (281474976710656 ≤ x.ver) = True := eq_true (by omega)
          clear hmx
          go_enter Tryz.func8, Tryz.ntmps8
          go_wp2_with fail
          refine (HRR.out _ HF0.out.now.2.2).mono ?_
          rintro e w1 ⟨rfl, hf⟩
          have K1 := Lib.hid (HF0.out.later hf)
          clear hf
          obtain ⟨o0, o1, o2, o3, o4, o5⟩ := box6 K1.out.now.1.op
          go_wp2_with fail
          refine (HMY.out _).mono ?_
          rintro e w2 ⟨rfl, hf⟩
          have K2 := Lib.hid (K1.out.later hf)
          clear hf o0 o1 o2 o3 o4 o5
          obtain ⟨o0, o1, o2, o3, o4, o5⟩ := box6 K2.out.now.1.op
          go_wp2_with fail
          refine (HFD.out _ K2.out.now.2.2).mono ?_
          rintro e w3 ⟨rfl, hf⟩
          have HW3 := Lib.hid (Nat.le_trans K2.out.now.1.sz hf.size)
          have hbx := heap_alloc_new w3 (.cells #[.string (B x.path), .string (B x.data), .int .i64 x.ver, .int .i64 x.turn, .int .i64 x.own] TN)
          have K3 := Lib.hid (Kp.and (Kp.row hbx) (K2.out.later (hf.alloc (.cells #[.string (B x.path), .string (B x.data), .int .i64 x.ver, .int .i64 x.turn, .int .i64 x.own] TN))))
          clear hf hbx o0 o1 o2 o3 o4 o5
          obtain ⟨x0, x1, x2, x3, x4⟩ := box5 K3.out.now.1
          obtain ⟨o0, o1, o2, o3, o4, o5⟩ := box6 K3.out.now.2.1.op
          go_wp2_with fail
          refine (HCH.out _ K3.out.now.2.2.2).mono ?_
          rintro e w4 ⟨v4, rfl, ho, hf⟩
          obtain ⟨a4, c4, rfl⟩ := ho.shape
          have K4 := Lib.hid (Kp.and (Kp.ns ho.ns) (K3.out.later hf))
          clear ho hf x0 x1 x2 x3 x4 o0 o1 o2 o3 o4 o5
          obtain ⟨x0, x1, x2, x3, x4⟩ := box5 K4.out.now.2.1
          obtain ⟨o0, o1, o2, o3, o4, o5⟩ := box6 K4.out.now.2.2.1.op
          have hbr := K4.out.now.2.2.1
          have hfw := K4.out.now.2.2.2.1
          obtain ⟨r0, r1, r2, r3, r4⟩ := hbr.r
          have z0 := hbr.fz 0; have z1 := hbr.fz 1; have z2 := hbr.fz 2; have z3 := hbr.fz 3; have z4 := hbr.fz 4
          have HE := Lib.hid (And.intro hbr.res hfw)
          clear hbr hfw
          go_wp2
          have hw9 := set5 HE.out.1 (.int .i64 2) (.string ⟨#[]⟩) (.string ⟨#[]⟩) (.int .i64 0) (.slice none 0 0)
          have hfz := fp5 (S := Non) HE.out.2 (b := w.heap.size + 1) (.inr (by omega)) (.int .i64 2) (.string ⟨#[]⟩) (.string ⟨#[]⟩) (.int .i64 0) (.slice none 0 0)
          have hfk := fp5k HE.out.1 (.int .i64 2) (.string ⟨#[]⟩) (.string ⟨#[]⟩) (.int .i64 0) (.slice none 0 0)
          generalize (((((World.setCell _ _ _).setCell _ _).setCell _ _).setCell _ _).setCell _ _) = wz at *
          have s0 := cell_of_row _ (w.heap.size + 1) 0 _ _ _ hw9
          have s1 := cell_of_row _ (w.heap.size + 1) 1 _ _ _ hw9
          have s2 := cell_of_row _ (w.heap.size + 1) 2 _ _ _ hw9
          have s3 := cell_of_row _ (w.heap.size + 1) 3 _ _ _ hw9
          have s4 := cell_of_row _ (w.heap.size + 1) 4 _ _ _ hw9
          simp only [zA, zB, zC] at s0 s1 s2 s3 s4
          exact bodyPost_ret (v := .tuple #[.slice ao n cap, .agg #[.int .i64 2, .string ⟨#[]⟩, .string ⟨#[]⟩, .int .i64 0, .slice none 0 0]]) (by simp [results, Tryz.results8, go_sem, s0, s1, s2, s3, s4]) rfl (res_bad (HVV.out.non hfz) hfz)
        · rw [if_neg hmx]
          have qm1 : (281474976710656 ≤ x.ver) = False := eq_false (by omega)
          have hpu := fun w' hv => rPut_c (.slice ao l.length cap) l { x with data := d, ver := x.ver + 1 } w' hv (by have := HT.out.most; omega)
          rw [put_set2 HT.out HFX.out d (x.ver + 1), ← HNN.out] at hpu
          have HPU := Lib.hid hpu
          clear hmx hpu
          go_enter Tryz.func8, Tryz.ntmps8
          go_wp2_with fail
          refine (HRR.out _ HF0.out.now.2.2).mono ?_
          rintro e w1 ⟨rfl, hf⟩
          have K1 := Lib.hid (HF0.out.later hf)
          clear hf
          obtain ⟨o0, o1, o2, o3, o4, o5⟩ := box6 K1.out.now.1.op
          go_wp2_with fail
          refine (HMY.out _).mono ?_
          rintro e w2 ⟨rfl, hf⟩
          have K2 := Lib.hid (K1.out.later hf)
          clear hf o0 o1 o2 o3 o4 o5
          obtain ⟨o0, o1, o2, o3, o4, o5⟩ := box6 K2.out.now.1.op
          go_wp2_with fail
          refine (HFD.out _ K2.out.now.2.2).mono ?_
          rintro e w3 ⟨rfl, hf⟩
          have HW3 := Lib.hid (Nat.le_trans K2.out.now.1.sz hf.size)
          have hbx := heap_alloc_new w3 (.cells #[.string (B x.path), .string (B x.data), .int .i64 x.ver, .int .i64 x.turn, .int .i64 x.own] TN)
          have K3 := Lib.hid (Kp.and (Kp.row hbx) (K2.out.later (hf.alloc (.cells #[.string (B x.path), .string (B x.data), .int .i64 x.ver, .int .i64 x.turn, .int .i64 x.own] TN))))
          clear hf hbx o0 o1 o2 o3 o4 o5
          obtain ⟨x0, x1, x2, x3, x4⟩ := box5 K3.out.now.1
          obtain ⟨o0, o1, o2, o3, o4, o5⟩ := box6 K3.out.now.2.1.op
          go_wp2_with fail
          refine (HCH.out _ K3.out.now.2.2.2).mono ?_
          rintro e w4 ⟨v4, rfl, ho, hf⟩
          obtain ⟨a4, c4, rfl⟩ := ho.shape
          have K4 := Lib.hid (Kp.and (Kp.ns ho.ns) (K3.out.later hf))
          clear ho hf x0 x1 x2 x3 x4 o0 o1 o2 o3 o4 o5
          obtain ⟨x0, x1, x2, x3, x4⟩ := box5 K4.out.now.2.1
          obtain ⟨o0, o1, o2, o3, o4, o5⟩ := box6 K4.out.now.2.2.1.op
          have fz := frozen_at K4.out.now.2.1
          have f1 := fz 1
          have f2 := fz 2
          clear fz
          have hrow := heap_setCell_same _ w3.heap.size 1 _ TN (.string (B d)) K4.out.now.2.1
          have hrow2 : ((w4.setCell ⟨w3.heap.size, 1, none⟩ (.string (B d))).setCell ⟨w3.heap.size, 2, none⟩ (.int .i64 (x.ver + 1))).heap[w3.heap.size]? = some (.cells #[.string (B x.path), .string (B d), .int .i64 (x.ver + 1), .int .i64 x.turn, .int .i64 x.own] TN (0, 0)) := heap_setCell_same _ w3.heap.size 2 _ TN (.int .i64 (x.ver + 1)) hrow
          have hfs : Fp (fun k => k = w3.heap.size) w4 ((w4.setCell ⟨w3.heap.size, 1, none⟩ (.string (B d))).setCell ⟨w3.heap.size, 2, none⟩ (.int .i64 (x.ver + 1))) := ((Fp.refl (fun k => k = w3.heap.size) _).setCell (p := ⟨w3.heap.size, 1, none⟩) (.inl rfl) _).setCell (p := ⟨w3.heap.size, 2, none⟩) (.inl rfl) _
          have hfw : Fp Non w ((w4.setCell ⟨w3.heap.size, 1, none⟩ (.string (B d))).setCell ⟨w3.heap.size, 2, none⟩ (.int .i64 (x.ver + 1))) := (K4.out.now.2.2.2.1.setCell (p := ⟨w3.heap.size, 1, none⟩) (.inr (by have := HW3.out; show w.heap.size ≤ w3.heap.size; omega)) _).setCell (p := ⟨w3.heap.size, 2, none⟩) (.inr (by have := HW3.out; show w.heap.size ≤ w3.heap.size; omega)) _
          have hbx := K4.out.now.2.2.1.keep hfs (fun k hk => .inr (by rw [hk]; exact HW3.out))
          have KW := Lib.hid (Kp.and (Kp.row hrow2) (Kp.and (Kp.bx hbx) (Kp.fp hfw)))
          have KD := Lib.hid (KW.out.later (Fp.refl Non _).drew)
          have hsd := box5 KD.out.now.1
          have HSD := Lib.hid hsd
          clear hrow hrow2 hfs hfw hbx KW hsd
          go_wp2_with fail
          refine wp_region_held_drew (S := (fun w' => w'.cell? ⟨w3.heap.size, 0, none⟩ = some (.string (B x.path)) ∧ w'.cell? ⟨w3.heap.size, 1, none⟩ = some (.string (B d)) ∧ w'.cell? ⟨w3.heap.size, 2, none⟩ = some (.int .i64 (x.ver + 1)) ∧ w'.cell? ⟨w3.heap.size, 3, none⟩ = some (.int .i64 x.turn) ∧ w'.cell? ⟨w3.heap.size, 4, none⟩ = some (.int .i64 x.own))) (by kernel_rfl) ?_ (fun hHeld => ?_)
          · exact HSD.out
          generalize World.drew _ = wd at *
          refine wpAnyH_take (i := 0) (oi := ?oi121) (v := ?vi121) ?h121 (by kernel_rfl) (by kernel_rfl) (by kernel_rfl) ?q121 (Or.inl ⟨?w121, ?y121⟩) hHeld ?r121
          case h121 => simp only [zA, zB] <;> exact rfl
          case q121 => exact fun _ _ _ h => h
          case w121 => rfl
          case y121 =>
            intro w hSw
            (try dsimp only at hSw)
            obtain ⟨s0, s1, s2, s3, s4⟩ := hSw
            go_simp
            try with_reducible rfl
          try simp only [zP, zN, zS, zT, zU]
          refine wpAnyH_take (i := 1) (oi := ?oi122) (v := ?vi122) ?h122 (by kernel_rfl) (by kernel_rfl) (by kernel_rfl) ?q122 (Or.inl ⟨?w122, ?y122⟩) hHeld ?r122
          case h122 => simp only [zA, zB, zC] <;> exact rfl
          case q122 => exact fun _ _ _ h => h
          case w122 => rfl
          case y122 =>
            intro w hSw
            (try dsimp only at hSw)
            obtain ⟨s0, s1, s2, s3, s4⟩ := hSw
            go_simp
            try with_reducible rfl
          try simp only [zP, zN, zS, zT, zU]
          refine wpAnyH_take (i := 3) (oi := ?oi123) (v := ?vi123) ?h123 (by kernel_rfl) (by kernel_rfl) (by kernel_rfl) ?q123 (Or.inl ⟨?w123, ?y123⟩) hHeld ?r123
          case h123 => simp only [zA, zB, zC] <;> exact rfl
          case q123 => exact fun _ _ _ h => h
          case w123 => rfl
          case y123 =>
            intro w hSw
            (try dsimp only at hSw)
            obtain ⟨s0, s1, s2, s3, s4⟩ := hSw
            go_simp
            try with_reducible rfl
          try simp only [zP, zN, zS, zT, zU]
          refine wpAnyH_take (i := 4) (oi := ?oi124) (v := ?vi124) ?h124 (by kernel_rfl) (by kernel_rfl) (by kernel_rfl) ?q124 (Or.inl ⟨?w124, ?y124⟩) hHeld ?r124
          case h124 => simp only [zA, zB, zC] <;> exact rfl
          case q124 => exact fun _ _ _ h => h
          case w124 => rfl
          case y124 =>
            intro w hSw
            (try dsimp only at hSw)
            obtain ⟨s0, s1, s2, s3, s4⟩ := hSw
            go_simp
            try with_reducible rfl
          try simp only [zP, zN, zS, zT, zU]
          refine wpAnyH_take (i := 5) (oi := ?oi125) (v := ?vi125) ?h125 (by kernel_rfl) (by kernel_rfl) (by kernel_rfl) ?q125 (Or.inl ⟨?w125, ?y125⟩) hHeld ?r125
          case h125 => simp only [zA, zB, zC] <;> exact rfl
          case q125 => exact fun _ _ _ h => h
          case w125 => rfl
          case y125 =>
            intro w hSw
            (try dsimp only at hSw)
            obtain ⟨s0, s1, s2, s3, s4⟩ := hSw
            go_simp
            try with_reducible rfl
          try simp only [zP, zN, zS, zT, zU]
          refine wpAnyH_ready (rs := [2]) (by kernel_rfl) (by simp) ?_
          refine AllReadyH.cons (o := ?ob126) ?hb126 (fun K hK => ?_) AllReadyH.nil
          case hb126 => simp only [zA, zB, zC] <;> exact rfl
          go_simp
          go_at_call 24
          refine (HPU.out _ (HVV.out.non KD.out.now.2.2)).mono ?_
          rintro e w5 ⟨v5, rfl, ho, hf⟩
          have HO5 := Lib.hid (And.intro ho KD.out.now.2.1.sz)
          have K5 := Lib.hid (KD.out.later hf)
          have HS5 := Lib.hid (box5 (KD.out.later hf).now.1)
          clear ho hf
          go_wp2_with fail
          refine hK.out _ _ HS5.out (fun hHeld => ?_)
          clear hK K
          try simp only [zP, zN, zS, zT, zU]
          have hbr := K5.out.now.2.1
          have hfw := K5.out.now.2.2
          obtain ⟨r0, r1, r2, r3, r4⟩ := hbr.r
          have z0 := hbr.fz 0; have z1 := hbr.fz 1; have z2 := hbr.fz 2; have z3 := hbr.fz 3; have z4 := hbr.fz 4
          have HE := Lib.hid (And.intro hbr.res hfw)
          clear hbr hfw
          refine wpAnyH_take (i := 6) (oi := ?oi127) (v := ?vi127) ?h127 (by kernel_rfl) (by kernel_rfl) (by kernel_rfl) ?q127 (Or.inl ⟨?w127, ?y127⟩) hHeld ?r127
          case h127 => simp only [zA, zB, zC] <;> exact rfl
          case q127 => exact fun _ _ _ h => h
          case w127 => rfl
          case y127 =>
            intro w hSw
            (try dsimp only at hSw)
            obtain ⟨s0, s1, s2, s3, s4⟩ := hSw
            go_simp
            try with_reducible rfl
          try simp only [zP, zN, zS, zT, zU]
          have hw9 := set5 HE.out.1 (.int .i64 0) (.string ⟨#[]⟩) (.string ⟨#[]⟩) (.int .i64 (x.ver + 1)) (.slice none 0 0)
          have hfz := fp5 (S := Non) HE.out.2 (b := w.heap.size + 1) (.inr (by omega)) (.int .i64 0) (.string ⟨#[]⟩) (.string ⟨#[]⟩) (.int .i64 (x.ver + 1)) (.slice none 0 0)
          have hfk := fp5k HE.out.1 (.int .i64 0) (.string ⟨#[]⟩) (.string ⟨#[]⟩) (.int .i64 (x.ver + 1)) (.slice none 0 0)
          have HS2 := Lib.hid (box5 (hfk.heap K5.out.now.1 (fun e => by have e : w3.heap.size = w.heap.size + 1 := e; have h := HW3.out; omega)) : (fun w' => w'.cell? ⟨w3.heap.size, 0, none⟩ = some (.string (B x.path)) ∧ w'.cell? ⟨w3.heap.size, 1, none⟩ = some (.string (B d)) ∧ w'.cell? ⟨w3.heap.size, 2, none⟩ = some (.int .i64 (x.ver + 1)) ∧ w'.cell? ⟨w3.heap.size, 3, none⟩ = some (.int .i64 x.turn) ∧ w'.cell? ⟨w3.heap.size, 4, none⟩ = some (.int .i64 x.own)) (((((w5.setCell ⟨w.heap.size + 1, 0, none⟩ (.int .i64 0)).setCell ⟨w.heap.size + 1, 1, none⟩ (.string ⟨#[]⟩)).setCell ⟨w.heap.size + 1, 2, none⟩ (.string ⟨#[]⟩)).setCell ⟨w.heap.size + 1, 3, none⟩ (.int .i64 (x.ver + 1))).setCell ⟨w.heap.size + 1, 4, none⟩ (.slice none 0 0)))
          refine wpAnyH_ready (rs := [7]) (by kernel_rfl) (by simp) ?_
          refine AllReadyH.cons (o := ?ob128) ?hb128 (fun K hK => ?_) AllReadyH.nil
          case hb128 => simp only [zA, zB, zC] <;> exact rfl
          go_simp
          refine hK.out _ _ HS2.out (fun hHeld => ?_)
          clear hK K
          try simp only [zP, zN, zS, zT, zU]
          refine wpAnyH_done (by kernel_rfl) ?_ _
          generalize (((((World.setCell w5 _ _).setCell _ _).setCell _ _).setCell _ _).setCell _ _) = wz at *
          go_wp2
          have s0 := cell_of_row _ (w.heap.size + 1) 0 _ _ _ hw9
          have s1 := cell_of_row _ (w.heap.size + 1) 1 _ _ _ hw9
          have s2 := cell_of_row _ (w.heap.size + 1) 2 _ _ _ hw9
          have s3 := cell_of_row _ (w.heap.size + 1) 3 _ _ _ hw9
          have s4 := cell_of_row _ (w.heap.size + 1) 4 _ _ _ hw9
          simp only [zA, zB, zC] at s0 s1 s2 s3 s4
          exact bodyPost_ret (v := .tuple #[v5, .agg #[.int .i64 0, .string ⟨#[]⟩, .string ⟨#[]⟩, .int .i64 (x.ver + 1), .slice none 0 0]]) (by simp [results, Tryz.results8, go_sem, s0, s1, s2, s3, s4]) rfl (⟨⟨v5, .slice none 0 0, rfl, HO5.out.1.ns.keep hfk (fun k hk e => by have h1 := (HO5.out.1.lt k hk).1; have h2 := HO5.out.2; omega), Own.nil _ _⟩, hfz⟩)
      · have hv2 : vv = x.ver := by
          rcases Classical.em (vv = x.ver) with h | h
          · exact h
          · exact absurd ⟨hv1, h⟩ hver
        have qv0 : (0 ≤ vv) = True := eq_true (by omega)
        have qv1 : (vv < 0) = False := eq_false (by omega)
        have qv2 : (vv == x.ver) = true := beq_iff_eq.2 hv2
        have qv3 : (vv != x.ver) = false := by simp [hv2]
        have qv4 : (vv = x.ver) = True := eq_true hv2
        clear hver hv1 hv2
        by_cases hmx : x.ver = 281474976710656
        · rw [if_pos hmx]
          have qm1 : (281474976710656 ≤ x.ver) = True := eq_true (by omega)
          clear hmx
          go_enter Tryz.func8, Tryz.ntmps8
          go_wp2_with fail
          refine (HRR.out _ HF0.out.now.2.2).mono ?_
          rintro e w1 ⟨rfl, hf⟩
          have K1 := Lib.hid (HF0.out.later hf)
          clear hf
          obtain ⟨o0, o1, o2, o3, o4, o5⟩ := box6 K1.out.now.1.op
          go_wp2_with fail
          refine (HMY.out _).mono ?_
          rintro e w2 ⟨rfl, hf⟩
          have K2 := Lib.hid (K1.out.later hf)
          clear hf o0 o1 o2 o3 o4 o5
          obtain ⟨o0, o1, o2, o3, o4, o5⟩ := box6 K2.out.now.1.op
          go_wp2_with fail
          refine (HFD.out _ K2.out.now.2.2).mono ?_
          rintro e w3 ⟨rfl, hf⟩
          have HW3 := Lib.hid (Nat.le_trans K2.out.now.1.sz hf.size)
          have hbx := heap_alloc_new w3 (.cells #[.string (B x.path), .string (B x.data), .int .i64 x.ver, .int .i64 x.turn, .int .i64 x.own] TN)
          have K3 := Lib.hid (Kp.and (Kp.row hbx) (K2.out.later (hf.alloc (.cells #[.string (B x.path), .string (B x.data), .int .i64 x.ver, .int .i64 x.turn, .int .i64 x.own] TN))))
          clear hf hbx o0 o1 o2 o3 o4 o5
          obtain ⟨x0, x1, x2, x3, x4⟩ := box5 K3.out.now.1
          obtain ⟨o0, o1, o2, o3, o4, o5⟩ := box6 K3.out.now.2.1.op
          go_wp2_with fail
          refine (HCH.out _ K3.out.now.2.2.2).mono ?_
          rintro e w4 ⟨v4, rfl, ho, hf⟩
          obtain ⟨a4, c4, rfl⟩ := ho.shape
          have K4 := Lib.hid (Kp.and (Kp.ns ho.ns) (K3.out.later hf))
          clear ho hf x0 x1 x2 x3 x4 o0 o1 o2 o3 o4 o5
          obtain ⟨x0, x1, x2, x3, x4⟩ := box5 K4.out.now.2.1
          obtain ⟨o0, o1, o2, o3, o4, o5⟩ := box6 K4.out.now.2.2.1.op
          have hbr := K4.out.now.2.2.1
          have hfw := K4.out.now.2.2.2.1
          obtain ⟨r0, r1, r2, r3, r4⟩ := hbr.r
          have z0 := hbr.fz 0; have z1 := hbr.fz 1; have z2 := hbr.fz 2; have z3 := hbr.fz 3; have z4 := hbr.fz 4
          have HE := Lib.hid (And.intro hbr.res hfw)
          clear hbr hfw
          go_wp2
          have hw9 := set5 HE.out.1 (.int .i64 2) (.string ⟨#[]⟩) (.string ⟨#[]⟩) (.int .i64 0) (.slice none 0 0)
          have hfz := fp5 (S := Non) HE.out.2 (b := w.heap.size + 1) (.inr (by omega)) (.int .i64 2) (.string ⟨#[]⟩) (.string ⟨#[]⟩) (.int .i64 0) (.slice none 0 0)
          have hfk := fp5k HE.out.1 (.int .i64 2) (.string ⟨#[]⟩) (.string ⟨#[]⟩) (.int .i64 0) (.slice none 0 0)
          generalize (((((World.setCell _ _ _).setCell _ _).setCell _ _).setCell _ _).setCell _ _) = wz at *
          have s0 := cell_of_row _ (w.heap.size + 1) 0 _ _ _ hw9
          have s1 := cell_of_row _ (w.heap.size + 1) 1 _ _ _ hw9
          have s2 := cell_of_row _ (w.heap.size + 1) 2 _ _ _ hw9
          have s3 := cell_of_row _ (w.heap.size + 1) 3 _ _ _ hw9
          have s4 := cell_of_row _ (w.heap.size + 1) 4 _ _ _ hw9
          simp only [zA, zB, zC] at s0 s1 s2 s3 s4
          exact bodyPost_ret (v := .tuple #[.slice ao n cap, .agg #[.int .i64 2, .string ⟨#[]⟩, .string ⟨#[]⟩, .int .i64 0, .slice none 0 0]]) (by simp [results, Tryz.results8, go_sem, s0, s1, s2, s3, s4]) rfl (res_bad (HVV.out.non hfz) hfz)
        · rw [if_neg hmx]
          have qm1 : (281474976710656 ≤ x.ver) = False := eq_false (by omega)
          have hpu := fun w' hv => rPut_c (.slice ao l.length cap) l { x with data := d, ver := x.ver + 1 } w' hv (by have := HT.out.most; omega)
          rw [put_set2 HT.out HFX.out d (x.ver + 1), ← HNN.out] at hpu
          have HPU := Lib.hid hpu
          clear hmx hpu
          go_enter Tryz.func8, Tryz.ntmps8
          go_wp2_with fail
          refine (HRR.out _ HF0.out.now.2.2).mono ?_
          rintro e w1 ⟨rfl, hf⟩
          have K1 := Lib.hid (HF0.out.later hf)
          clear hf
          obtain ⟨o0, o1, o2, o3, o4, o5⟩ := box6 K1.out.now.1.op
          go_wp2_with fail
          refine (HMY.out _).mono ?_
          rintro e w2 ⟨rfl, hf⟩
          have K2 := Lib.hid (K1.out.later hf)
          clear hf o0 o1 o2 o3 o4 o5
          obtain ⟨o0, o1, o2, o3, o4, o5⟩ := box6 K2.out.now.1.op
          go_wp2_with fail
          refine (HFD.out _ K2.out.now.2.2).mono ?_
          rintro e w3 ⟨rfl, hf⟩
          have HW3 := Lib.hid (Nat.le_trans K2.out.now.1.sz hf.size)
          have hbx := heap_alloc_new w3 (.cells #[.string (B x.path), .string (B x.data), .int .i64 x.ver, .int .i64 x.turn, .int .i64 x.own] TN)
          have K3 := Lib.hid (Kp.and (Kp.row hbx) (K2.out.later (hf.alloc (.cells #[.string (B x.path), .string (B x.data), .int .i64 x.ver, .int .i64 x.turn, .int .i64 x.own] TN))))
          clear hf hbx o0 o1 o2 o3 o4 o5
          obtain ⟨x0, x1, x2, x3, x4⟩ := box5 K3.out.now.1
          obtain ⟨o0, o1, o2, o3, o4, o5⟩ := box6 K3.out.now.2.1.op
          go_wp2_with fail
          refine (HCH.out _ K3.out.now.2.2.2).mono ?_
          rintro e w4 ⟨v4, rfl, ho, hf⟩
          obtain ⟨a4, c4, rfl⟩ := ho.shape
          have K4 := Lib.hid (Kp.and (Kp.ns ho.ns) (K3.out.later hf))
          clear ho hf x0 x1 x2 x3 x4 o0 o1 o2 o3 o4 o5
          obtain ⟨x0, x1, x2, x3, x4⟩ := box5 K4.out.now.2.1
          obtain ⟨o0, o1, o2, o3, o4, o5⟩ := box6 K4.out.now.2.2.1.op
          have fz := frozen_at K4.out.now.2.1
          have f1 := fz 1
          have f2 := fz 2
          clear fz
          have hrow := heap_setCell_same _ w3.heap.size 1 _ TN (.string (B d)) K4.out.now.2.1
          have hrow2 : ((w4.setCell ⟨w3.heap.size, 1, none⟩ (.string (B d))).setCell ⟨w3.heap.size, 2, none⟩ (.int .i64 (x.ver + 1))).heap[w3.heap.size]? = some (.cells #[.string (B x.path), .string (B d), .int .i64 (x.ver + 1), .int .i64 x.turn, .int .i64 x.own] TN (0, 0)) := heap_setCell_same _ w3.heap.size 2 _ TN (.int .i64 (x.ver + 1)) hrow
          have hfs : Fp (fun k => k = w3.heap.size) w4 ((w4.setCell ⟨w3.heap.size, 1, none⟩ (.string (B d))).setCell ⟨w3.heap.size, 2, none⟩ (.int .i64 (x.ver + 1))) := ((Fp.refl (fun k => k = w3.heap.size) _).setCell (p := ⟨w3.heap.size, 1, none⟩) (.inl rfl) _).setCell (p := ⟨w3.heap.size, 2, none⟩) (.inl rfl) _
          have hfw : Fp Non w ((w4.setCell ⟨w3.heap.size, 1, none⟩ (.string (B d))).setCell ⟨w3.heap.size, 2, none⟩ (.int .i64 (x.ver + 1))) := (K4.out.now.2.2.2.1.setCell (p := ⟨w3.heap.size, 1, none⟩) (.inr (by have := HW3.out; show w.heap.size ≤ w3.heap.size; omega)) _).setCell (p := ⟨w3.heap.size, 2, none⟩) (.inr (by have := HW3.out; show w.heap.size ≤ w3.heap.size; omega)) _
          have hbx := K4.out.now.2.2.1.keep hfs (fun k hk => .inr (by rw [hk]; exact HW3.out))
          have KW := Lib.hid (Kp.and (Kp.row hrow2) (Kp.and (Kp.bx hbx) (Kp.fp hfw)))
          have KD := Lib.hid (KW.out.later (Fp.refl Non _).drew)
          have hsd := box5 KD.out.now.1
          have HSD := Lib.hid hsd
          clear hrow hrow2 hfs hfw hbx KW hsd
          go_wp2_with fail
          refine wp_region_held_drew (S := (fun w' => w'.cell? ⟨w3.heap.size, 0, none⟩ = some (.string (B x.path)) ∧ w'.cell? ⟨w3.heap.size, 1, none⟩ = some (.string (B d)) ∧ w'.cell? ⟨w3.heap.size, 2, none⟩ = some (.int .i64 (x.ver + 1)) ∧ w'.cell? ⟨w3.heap.size, 3, none⟩ = some (.int .i64 x.turn) ∧ w'.cell? ⟨w3.heap.size, 4, none⟩ = some (.int .i64 x.own))) (by kernel_rfl) ?_ (fun hHeld => ?_)
          · exact HSD.out
          generalize World.drew _ = wd at *
          refine wpAnyH_take (i := 0) (oi := ?oi129) (v := ?vi129) ?h129 (by kernel_rfl) (by kernel_rfl) (by kernel_rfl) ?q129 (Or.inl ⟨?w129, ?y129⟩) hHeld ?r129
          case h129 => simp only [zA, zB] <;> exact rfl
          case q129 => exact fun _ _ _ h => h
          case w129 => rfl
          case y129 =>
            intro w hSw
            (try dsimp only at hSw)
            obtain ⟨s0, s1, s2, s3, s4⟩ := hSw
            go_simp
            try with_reducible rfl
          try simp only [zP, zN, zS, zT, zU]
          refine wpAnyH_take (i := 1) (oi := ?oi130) (v := ?vi130) ?h130 (by kernel_rfl) (by kernel_rfl) (by kernel_rfl) ?q130 (Or.inl ⟨?w130, ?y130⟩) hHeld ?r130
          case h130 => simp only [zA, zB, zC] <;> exact rfl
          case q130 => exact fun _ _ _ h => h
          case w130 => rfl
          case y130 =>
            intro w hSw
            (try dsimp only at hSw)
            obtain ⟨s0, s1, s2, s3, s4⟩ := hSw
            go_simp
            try with_reducible rfl
          try simp only [zP, zN, zS, zT, zU]
          refine wpAnyH_take (i := 3) (oi := ?oi131) (v := ?vi131) ?h131 (by kernel_rfl) (by kernel_rfl) (by kernel_rfl) ?q131 (Or.inl ⟨?w131, ?y131⟩) hHeld ?r131
          case h131 => simp only [zA, zB, zC] <;> exact rfl
          case q131 => exact fun _ _ _ h => h
          case w131 => rfl
          case y131 =>
            intro w hSw
            (try dsimp only at hSw)
            obtain ⟨s0, s1, s2, s3, s4⟩ := hSw
            go_simp
            try with_reducible rfl
          try simp only [zP, zN, zS, zT, zU]
          refine wpAnyH_take (i := 4) (oi := ?oi132) (v := ?vi132) ?h132 (by kernel_rfl) (by kernel_rfl) (by kernel_rfl) ?q132 (Or.inl ⟨?w132, ?y132⟩) hHeld ?r132
          case h132 => simp only [zA, zB, zC] <;> exact rfl
          case q132 => exact fun _ _ _ h => h
          case w132 => rfl
          case y132 =>
            intro w hSw
            (try dsimp only at hSw)
            obtain ⟨s0, s1, s2, s3, s4⟩ := hSw
            go_simp
            try with_reducible rfl
          try simp only [zP, zN, zS, zT, zU]
          refine wpAnyH_take (i := 5) (oi := ?oi133) (v := ?vi133) ?h133 (by kernel_rfl) (by kernel_rfl) (by kernel_rfl) ?q133 (Or.inl ⟨?w133, ?y133⟩) hHeld ?r133
          case h133 => simp only [zA, zB, zC] <;> exact rfl
          case q133 => exact fun _ _ _ h => h
          case w133 => rfl
          case y133 =>
            intro w hSw
            (try dsimp only at hSw)
            obtain ⟨s0, s1, s2, s3, s4⟩ := hSw
            go_simp
            try with_reducible rfl
          try simp only [zP, zN, zS, zT, zU]
          refine wpAnyH_ready (rs := [2]) (by kernel_rfl) (by simp) ?_
          refine AllReadyH.cons (o := ?ob134) ?hb134 (fun K hK => ?_) AllReadyH.nil
          case hb134 => simp only [zA, zB, zC] <;> exact rfl
          go_simp
          go_at_call 24
          refine (HPU.out _ (HVV.out.non KD.out.now.2.2)).mono ?_
          rintro e w5 ⟨v5, rfl, ho, hf⟩
          have HO5 := Lib.hid (And.intro ho KD.out.now.2.1.sz)
          have K5 := Lib.hid (KD.out.later hf)
          have HS5 := Lib.hid (box5 (KD.out.later hf).now.1)
          clear ho hf
          go_wp2_with fail
          refine hK.out _ _ HS5.out (fun hHeld => ?_)
          clear hK K
          try simp only [zP, zN, zS, zT, zU]
          have hbr := K5.out.now.2.1
          have hfw := K5.out.now.2.2
          obtain ⟨r0, r1, r2, r3, r4⟩ := hbr.r
          have z0 := hbr.fz 0; have z1 := hbr.fz 1; have z2 := hbr.fz 2; have z3 := hbr.fz 3; have z4 := hbr.fz 4
          have HE := Lib.hid (And.intro hbr.res hfw)
          clear hbr hfw
          refine wpAnyH_take (i := 6) (oi := ?oi135) (v := ?vi135) ?h135 (by kernel_rfl) (by kernel_rfl) (by kernel_rfl) ?q135 (Or.inl ⟨?w135, ?y135⟩) hHeld ?r135
          case h135 => simp only [zA, zB, zC] <;> exact rfl
          case q135 => exact fun _ _ _ h => h
          case w135 => rfl
          case y135 =>
            intro w hSw
            (try dsimp only at hSw)
            obtain ⟨s0, s1, s2, s3, s4⟩ := hSw
            go_simp
            try with_reducible rfl
          try simp only [zP, zN, zS, zT, zU]
          have hw9 := set5 HE.out.1 (.int .i64 0) (.string ⟨#[]⟩) (.string ⟨#[]⟩) (.int .i64 (x.ver + 1)) (.slice none 0 0)
          have hfz := fp5 (S := Non) HE.out.2 (b := w.heap.size + 1) (.inr (by omega)) (.int .i64 0) (.string ⟨#[]⟩) (.string ⟨#[]⟩) (.int .i64 (x.ver + 1)) (.slice none 0 0)
          have hfk := fp5k HE.out.1 (.int .i64 0) (.string ⟨#[]⟩) (.string ⟨#[]⟩) (.int .i64 (x.ver + 1)) (.slice none 0 0)
          have HS2 := Lib.hid (box5 (hfk.heap K5.out.now.1 (fun e => by have e : w3.heap.size = w.heap.size + 1 := e; have h := HW3.out; omega)) : (fun w' => w'.cell? ⟨w3.heap.size, 0, none⟩ = some (.string (B x.path)) ∧ w'.cell? ⟨w3.heap.size, 1, none⟩ = some (.string (B d)) ∧ w'.cell? ⟨w3.heap.size, 2, none⟩ = some (.int .i64 (x.ver + 1)) ∧ w'.cell? ⟨w3.heap.size, 3, none⟩ = some (.int .i64 x.turn) ∧ w'.cell? ⟨w3.heap.size, 4, none⟩ = some (.int .i64 x.own)) (((((w5.setCell ⟨w.heap.size + 1, 0, none⟩ (.int .i64 0)).setCell ⟨w.heap.size + 1, 1, none⟩ (.string ⟨#[]⟩)).setCell ⟨w.heap.size + 1, 2, none⟩ (.string ⟨#[]⟩)).setCell ⟨w.heap.size + 1, 3, none⟩ (.int .i64 (x.ver + 1))).setCell ⟨w.heap.size + 1, 4, none⟩ (.slice none 0 0)))
          refine wpAnyH_ready (rs := [7]) (by kernel_rfl) (by simp) ?_
          refine AllReadyH.cons (o := ?ob136) ?hb136 (fun K hK => ?_) AllReadyH.nil
          case hb136 => simp only [zA, zB, zC] <;> exact rfl
          go_simp
          refine hK.out _ _ HS2.out (fun hHeld => ?_)
          clear hK K
          try simp only [zP, zN, zS, zT, zU]
          refine wpAnyH_done (by kernel_rfl) ?_ _
          generalize (((((World.setCell w5 _ _).setCell _ _).setCell _ _).setCell _ _).setCell _ _) = wz at *
          go_wp2
          have s0 := cell_of_row _ (w.heap.size + 1) 0 _ _ _ hw9
          have s1 := cell_of_row _ (w.heap.size + 1) 1 _ _ _ hw9
          have s2 := cell_of_row _ (w.heap.size + 1) 2 _ _ _ hw9
          have s3 := cell_of_row _ (w.heap.size + 1) 3 _ _ _ hw9
          have s4 := cell_of_row _ (w.heap.size + 1) 4 _ _ _ hw9
          simp only [zA, zB, zC] at s0 s1 s2 s3 s4
          exact bodyPost_ret (v := .tuple #[v5, .agg #[.int .i64 0, .string ⟨#[]⟩, .string ⟨#[]⟩, .int .i64 (x.ver + 1), .slice none 0 0]]) (by simp [results, Tryz.results8, go_sem, s0, s1, s2, s3, s4]) rfl (⟨⟨v5, .slice none 0 0, rfl, HO5.out.1.ns.keep hfk (fun k hk e => by have h1 := (HO5.out.1.lt k hk).1; have h2 := HO5.out.2; omega), Own.nil _ _⟩, hfz⟩)
end Go.Proofs.YthaepjeikicigaaGreatDoor
