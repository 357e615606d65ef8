/- A text of this proof. -/
import Derived.Test.YtphoglepiegeiaaGreatDoorZCBA
import Derived.Test.YtphoglepiegeiaaGreatDoorZCC
set_option linter.unusedSimpArgs false
set_option linter.unusedVariables false
namespace Go.Proofs.YtphoglepiegeiaaGreatDoor
set_option maxRecDepth 20000
open Go.RowKit Pm
theorem Kp.bx {w W : World} {kk : Int} {p d : Bs} {v ow : Int} {t : Bool} (h : Bx w kk p d v ow t W) : Kp (Bx w kk p d v ow t) W := fun W' f => h.non f
theorem put_set2 {l : List Nd} (h : Tr l) {u : Bs} {x : Nd} (hx : find l u = some x) (d : Bs) (v : Int) : put l { x with data := d, ver := v } = l.set (place l u) { x with data := d, ver := v } := by
 obtain ⟨hk, e⟩ := find_at h.asc hx
 have hp := (find_mem hx).2
 have hk2 : place l x.path < l.length := by rw [hp]; exact hk
 have e2 : l[place l x.path]'hk2 = x := by simp only [hp]; exact e
 have := put_set h.asc { x with data := d, ver := v } hk2 (by rw [e2])
 rw [this]; simp only [hp]
set_option maxHeartbeats 16000000 in
theorem rApply_3 (v : Value) (l : List Nd) (p d : Bs) (vv ow : Int) (tt : Bool) (w : World) (hv : Ns w v l) (hT : Tr l) (hm : may ⟨3, p, d, vv, ow, tt⟩ = true) :
  Calls Tryz.prog 82 #[v, .agg #[.int .i64 3, .string (B p), .string (B d), .int .i64 vv, .int .i64 ow, .bool tt]] w (ApB w v (perform l ⟨3, p, d, vv, ow, tt⟩).1 (perform l ⟨3, p, d, vv, ow, tt⟩).2) := by
 obtain ⟨ao, cap, rfl⟩ := hv.shape
 have hpl : p.length ≤ 1000000 := may_len2 hm
 have hrr := fun w' hv => rRightN_g (.slice ao l.length cap) l w' hv (tr_few hT).2
 rw [right_true hT.tree] at hrr
 have hmy := fun w' => rMay_c ⟨3, p, d, vv, ow, tt⟩ w' hpl
 rw [hm] at hmy
 have hfd := fun w' hv => rFind_c (.slice ao l.length cap) l p w' hv (tr_few hT).1
 have hcl := parent_ok hm
 have hln := hT.most
 rw [perform_not1 (l := l) (o := ⟨3, p, d, vv, ow, tt⟩) (by simp)]
 simp only
 have hdo : ∀ x, doit l ⟨3, p, d, vv, ow, tt⟩ x = (if x.ver = 281474976710656 then (l, .bad 2) else (l.set (place l p) { x with data := d, ver := x.ver + 1 }, ⟨0, [], [], x.ver + 1, []⟩)) := fun x => by unfold doit; simp
 have HVM := zI (may_ver (.inr (.inl rfl)) hm)
 have hb0 := Bx.made w 3 p d vv ow tt
 have hf0 : Fp Non w ((w.alloc (.cells #[.int .i64 3, .string (B p), .string (B d), .int .i64 vv, .int .i64 ow, .bool tt] TO_)).alloc (.cells #[.int .i64 0, .string ⟨#[]⟩, .string ⟨#[]⟩, .int .i64 0, .slice none 0 0] TR)) := (fp_alloc w _).then (fp_alloc _ _)
 have HF0 := zI (Kp.and (fun W' f => hb0.non f : Kp (Bx w 3 p d vv ow tt) ((w.alloc (.cells #[.int .i64 3, .string (B p), .string (B d), .int .i64 vv, .int .i64 ow, .bool tt] TO_)).alloc (.cells #[.int .i64 0, .string ⟨#[]⟩, .string ⟨#[]⟩, .int .i64 0, .slice none 0 0] TR))) (Kp.and (Kp.fp hf0) (Kp.ns (hv.non hf0))))
 have HRR := zI hrr
 have HMY := zI hmy
 have HT := zI hT
 have HM := zI hm
 have HVV := zI hv
 unfold opV strV at HMY
 simp only at HMY
 clear hrr hmy hf0 hb0 hv hT hm hpl
 cases hfx : find l p with
 | none =>
  rw [hfx] at hfd
  simp only [Option.getD_none, Option.isSome_none, ndV, strV, zeroNd] at hfd
  dsimp only
  obtain ⟨n, hnn⟩ : ∃ n, n = l.length := ⟨_, rfl⟩
  rw [← hnn] at HVV hfd HF0 HRR ⊢
  have HFD := zI hfd
  have HNN := zI hnn
  clear hfd hfx hnn
  go_enter Tryz.func82, Tryz.ntmps82
  go_wp2_with fail
  refine (HRR.out _ HF0.out.now.2.2).mono ?_
  rintro e w1 ⟨rfl, hf⟩
  have K1 := zI (HF0.out.later hf)
  clear hf
  obtain ⟨o0, o1, o2, o3, o4, o5⟩ := box6 K1.out.now.1.op
  go_wp2_with fail
  refine (HMY.out _).mono ?_
  rintro e w2 ⟨rfl, hf⟩
  have K2 := zI (K1.out.later hf)
  clear hf o0 o1 o2 o3 o4 o5
  obtain ⟨o0, o1, o2, o3, o4, o5⟩ := box6 K2.out.now.1.op
  go_wp2_with fail
  refine (HFD.out _ K2.out.now.2.2).mono ?_
  rintro e w3 ⟨rfl, hf⟩
  have HW3 := zI (Nat.le_trans K2.out.now.1.sz hf.size)
  have K3 := zI (K2.out.later (hf.alloc (.cells #[.string (B []), .string (B []), .int .i64 0, .int .i64 0, .int .i64 0] TN)))
  clear hf
  have hbr := K3.out.now.1
  have hfw := K3.out.now.2.1
  obtain ⟨r0, r1, r2, r3, r4⟩ := hbr.r
  have z0 := hbr.fz 0; have z1 := hbr.fz 1; have z2 := hbr.fz 2; have z3 := hbr.fz 3; have z4 := hbr.fz 4
  have HE := zI (yI hbr.res hfw)
  clear hbr hfw
  go_wp2
  have hw9 := set5 HE.out.1 (.int .i64 62) (.string ⟨#[]⟩) (.string ⟨#[]⟩) (.int .i64 0) (.slice none 0 0)
  have hfz := fp5 (S := Non) HE.out.2 (b := w.heap.size + 1) (.inr (by omega)) (.int .i64 62) (.string ⟨#[]⟩) (.string ⟨#[]⟩) (.int .i64 0) (.slice none 0 0)
  have hfk := fp5k HE.out.1 (.int .i64 62) (.string ⟨#[]⟩) (.string ⟨#[]⟩) (.int .i64 0) (.slice none 0 0)
  generalize (((((World.setCell _ _ _).setCell _ _).setCell _ _).setCell _ _).setCell _ _) = wz at *
  obtain ⟨s0, s1, s2, s3, s4⟩ := b5 hw9
  exact bodyPost_ret (v := .tuple #[.slice ao n cap, .agg #[.int .i64 62, .string ⟨#[]⟩, .string ⟨#[]⟩, .int .i64 0, .slice none 0 0]]) (by simp [results, Tryz.results82, go_sem, s0, s1, s2, s3, s4]) rfl (res_bad (HVV.out.non hfz) hfz)
 | some x => ?_
 rw [hfx] at hfd
 simp only [Option.getD_some, Option.isSome_some, ndV, strV] at hfd
 dsimp only
 have HFX := zI hfx
 have hft := (fits_iff x).1 (HT.out.fit x (find_mem hfx).1)
 have HFT := zI hft
 have hxv : 0 ≤ x.ver ∧ x.ver ≤ 281474976710656 := by omega
 have hch := fun w' hv => rChildren_c (.slice ao l.length cap) l p w' hv (tr_few HT.out).2 (by omega)
 obtain ⟨n, hnn⟩ : ∃ n, n = l.length := ⟨_, rfl⟩
 rw [← hnn] at HVV hfd HF0 HRR hch hln ⊢
 have HFD := zI hfd
 have HCH := zI hch
 have HNN := zI hnn
 clear hfd hfx hnn hft hch
 by_cases hver : vv ≠ -1 ∧ vv ≠ x.ver
 ·rw [if_pos ⟨rfl, hver.1, hver.2⟩]
  have hvm := HVM.out
  have qv0 : (0 ≤ vv) = True := eq_true (by omega)
  have qv1 : (vv < 0) = False := eq_false (by omega)
  have qv2 : (vv == x.ver) = false := beq_eq_false_iff_ne.2 hver.2
  have qv3 : (vv != x.ver) = true := by simpa using hver.2
  have qv4 : (vv = x.ver) = False := eq_false hver.2
  clear hver hvm
  go_enter Tryz.func82, Tryz.ntmps82
  go_wp2_with fail
  refine (HRR.out _ HF0.out.now.2.2).mono ?_
  rintro e w1 ⟨rfl, hf⟩
  have K1 := zI (HF0.out.later hf)
  clear hf
  obtain ⟨o0, o1, o2, o3, o4, o5⟩ := box6 K1.out.now.1.op
  go_wp2_with fail
  refine (HMY.out _).mono ?_
  rintro e w2 ⟨rfl, hf⟩
  have K2 := zI (K1.out.later hf)
  clear hf o0 o1 o2 o3 o4 o5
  obtain ⟨o0, o1, o2, o3, o4, o5⟩ := box6 K2.out.now.1.op
  go_wp2_with fail
  refine (HFD.out _ K2.out.now.2.2).mono ?_
  rintro e w3 ⟨rfl, hf⟩
  have HW3 := zI (Nat.le_trans K2.out.now.1.sz hf.size)
  have hbx := heap_alloc_new w3 (.cells #[.string (B x.path), .string (B x.data), .int .i64 x.ver, .int .i64 x.turn, .int .i64 x.own] TN)
  have K3 := zI (Kp.and (Kp.row hbx) (K2.out.later (hf.alloc (.cells #[.string (B x.path), .string (B x.data), .int .i64 x.ver, .int .i64 x.turn, .int .i64 x.own] TN))))
  clear hf hbx o0 o1 o2 o3 o4 o5
  obtain ⟨x0, x1, x2, x3, x4⟩ := box5 K3.out.now.1
  obtain ⟨o0, o1, o2, o3, o4, o5⟩ := box6 K3.out.now.2.1.op
  have hbr := K3.out.now.2.1
  have hfw := K3.out.now.2.2.1
  obtain ⟨r0, r1, r2, r3, r4⟩ := hbr.r
  have z0 := hbr.fz 0; have z1 := hbr.fz 1; have z2 := hbr.fz 2; have z3 := hbr.fz 3; have z4 := hbr.fz 4
  have HE := zI (yI hbr.res hfw)
  clear hbr hfw
  go_wp2
  have hw9 := set5 HE.out.1 (.int .i64 63) (.string ⟨#[]⟩) (.string ⟨#[]⟩) (.int .i64 0) (.slice none 0 0)
  have hfz := fp5 (S := Non) HE.out.2 (b := w.heap.size + 1) (.inr (by omega)) (.int .i64 63) (.string ⟨#[]⟩) (.string ⟨#[]⟩) (.int .i64 0) (.slice none 0 0)
  have hfk := fp5k HE.out.1 (.int .i64 63) (.string ⟨#[]⟩) (.string ⟨#[]⟩) (.int .i64 0) (.slice none 0 0)
  generalize (((((World.setCell _ _ _).setCell _ _).setCell _ _).setCell _ _).setCell _ _) = wz at *
  obtain ⟨s0, s1, s2, s3, s4⟩ := b5 hw9
  exact bodyPost_ret (v := .tuple #[.slice ao n cap, .agg #[.int .i64 63, .string ⟨#[]⟩, .string ⟨#[]⟩, .int .i64 0, .slice none 0 0]]) (by simp [results, Tryz.results82, go_sem, s0, s1, s2, s3, s4]) rfl (res_bad (HVV.out.non hfz) hfz)
 rw [if_neg (by rintro ⟨_, a, b⟩; exact hver ⟨a, b⟩)]
 rw [hdo]
 by_cases hv1 : vv = -1
 ·subst hv1
  clear hver
  by_cases hmx : x.ver = 281474976710656
  ·rw [if_pos hmx]
   have qm1 : (281474976710656 ≤ x.ver) = True := eq_true (by omega)
   clear hmx
   go_enter Tryz.func82, Tryz.ntmps82
   go_wp2_with fail
   refine (HRR.out _ HF0.out.now.2.2).mono ?_
   rintro e w1 ⟨rfl, hf⟩
   have K1 := zI (HF0.out.later hf)
   clear hf
   obtain ⟨o0, o1, o2, o3, o4, o5⟩ := box6 K1.out.now.1.op
   go_wp2_with fail
   refine (HMY.out _).mono ?_
   rintro e w2 ⟨rfl, hf⟩
   have K2 := zI (K1.out.later hf)
   clear hf o0 o1 o2 o3 o4 o5
   obtain ⟨o0, o1, o2, o3, o4, o5⟩ := box6 K2.out.now.1.op
   go_wp2_with fail
   refine (HFD.out _ K2.out.now.2.2).mono ?_
   rintro e w3 ⟨rfl, hf⟩
   have HW3 := zI (Nat.le_trans K2.out.now.1.sz hf.size)
   have hbx := heap_alloc_new w3 (.cells #[.string (B x.path), .string (B x.data), .int .i64 x.ver, .int .i64 x.turn, .int .i64 x.own] TN)
   have K3 := zI (Kp.and (Kp.row hbx) (K2.out.later (hf.alloc (.cells #[.string (B x.path), .string (B x.data), .int .i64 x.ver, .int .i64 x.turn, .int .i64 x.own] TN))))
   clear hf hbx o0 o1 o2 o3 o4 o5
   obtain ⟨x0, x1, x2, x3, x4⟩ := box5 K3.out.now.1
   obtain ⟨o0, o1, o2, o3, o4, o5⟩ := box6 K3.out.now.2.1.op
   go_wp2_with fail
   refine (HCH.out _ K3.out.now.2.2.2).mono ?_
   rintro e w4 ⟨v4, rfl, ho, hf⟩
   obtain ⟨a4, c4, rfl⟩ := ho.shape
   have K4 := zI (Kp.and (Kp.ns ho.ns) (K3.out.later hf))
   clear ho hf x0 x1 x2 x3 x4 o0 o1 o2 o3 o4 o5
   obtain ⟨x0, x1, x2, x3, x4⟩ := box5 K4.out.now.2.1
   obtain ⟨o0, o1, o2, o3, o4, o5⟩ := box6 K4.out.now.2.2.1.op
   have hbr := K4.out.now.2.2.1
   have hfw := K4.out.now.2.2.2.1
   obtain ⟨r0, r1, r2, r3, r4⟩ := hbr.r
   have z0 := hbr.fz 0; have z1 := hbr.fz 1; have z2 := hbr.fz 2; have z3 := hbr.fz 3; have z4 := hbr.fz 4
   have HE := zI (yI hbr.res hfw)
   clear hbr hfw
   go_wp2
   have hw9 := set5 HE.out.1 (.int .i64 2) (.string ⟨#[]⟩) (.string ⟨#[]⟩) (.int .i64 0) (.slice none 0 0)
   have hfz := fp5 (S := Non) HE.out.2 (b := w.heap.size + 1) (.inr (by omega)) (.int .i64 2) (.string ⟨#[]⟩) (.string ⟨#[]⟩) (.int .i64 0) (.slice none 0 0)
   have hfk := fp5k HE.out.1 (.int .i64 2) (.string ⟨#[]⟩) (.string ⟨#[]⟩) (.int .i64 0) (.slice none 0 0)
   generalize (((((World.setCell _ _ _).setCell _ _).setCell _ _).setCell _ _).setCell _ _) = wz at *
   obtain ⟨s0, s1, s2, s3, s4⟩ := b5 hw9
   exact bodyPost_ret (v := .tuple #[.slice ao n cap, .agg #[.int .i64 2, .string ⟨#[]⟩, .string ⟨#[]⟩, .int .i64 0, .slice none 0 0]]) (by simp [results, Tryz.results82, go_sem, s0, s1, s2, s3, s4]) rfl (res_bad (HVV.out.non hfz) hfz)
  rw [if_neg hmx]
  have qm1 : (281474976710656 ≤ x.ver) = False := eq_false (by omega)
  have hpu := fun w' hv => rPut_c (.slice ao l.length cap) l { x with data := d, ver := x.ver + 1 } w' hv (by have := HT.out.most; omega)
  rw [put_set2 HT.out HFX.out d (x.ver + 1), ← HNN.out] at hpu
  have HPU := zI hpu
  clear hmx hpu
  go_enter Tryz.func82, Tryz.ntmps82
  go_wp2_with fail
  refine (HRR.out _ HF0.out.now.2.2).mono ?_
  rintro e w1 ⟨rfl, hf⟩
  have K1 := zI (HF0.out.later hf)
  clear hf
  obtain ⟨o0, o1, o2, o3, o4, o5⟩ := box6 K1.out.now.1.op
  go_wp2_with fail
  refine (HMY.out _).mono ?_
  rintro e w2 ⟨rfl, hf⟩
  have K2 := zI (K1.out.later hf)
  clear hf o0 o1 o2 o3 o4 o5
  obtain ⟨o0, o1, o2, o3, o4, o5⟩ := box6 K2.out.now.1.op
  go_wp2_with fail
  refine (HFD.out _ K2.out.now.2.2).mono ?_
  rintro e w3 ⟨rfl, hf⟩
  have HW3 := zI (Nat.le_trans K2.out.now.1.sz hf.size)
  have hbx := heap_alloc_new w3 (.cells #[.string (B x.path), .string (B x.data), .int .i64 x.ver, .int .i64 x.turn, .int .i64 x.own] TN)
  have K3 := zI (Kp.and (Kp.row hbx) (K2.out.later (hf.alloc (.cells #[.string (B x.path), .string (B x.data), .int .i64 x.ver, .int .i64 x.turn, .int .i64 x.own] TN))))
  clear hf hbx o0 o1 o2 o3 o4 o5
  obtain ⟨x0, x1, x2, x3, x4⟩ := box5 K3.out.now.1
  obtain ⟨o0, o1, o2, o3, o4, o5⟩ := box6 K3.out.now.2.1.op
  go_wp2_with fail
  refine (HCH.out _ K3.out.now.2.2.2).mono ?_
  rintro e w4 ⟨v4, rfl, ho, hf⟩
  obtain ⟨a4, c4, rfl⟩ := ho.shape
  have K4 := zI (Kp.and (Kp.ns ho.ns) (K3.out.later hf))
  clear ho hf x0 x1 x2 x3 x4 o0 o1 o2 o3 o4 o5
  obtain ⟨x0, x1, x2, x3, x4⟩ := box5 K4.out.now.2.1
  obtain ⟨o0, o1, o2, o3, o4, o5⟩ := box6 K4.out.now.2.2.1.op
  have fz := frozen_at K4.out.now.2.1
  have f1 := fz 1
  have f2 := fz 2
  clear fz
  have hrow := heap_setCell_same _ w3.heap.size 1 _ TN (.string (B d)) K4.out.now.2.1
  have hrow2 : ((w4.setCell ⟨w3.heap.size, 1, none⟩ (.string (B d))).setCell ⟨w3.heap.size, 2, none⟩ (.int .i64 (x.ver + 1))).heap[w3.heap.size]? = some (.cells #[.string (B x.path), .string (B d), .int .i64 (x.ver + 1), .int .i64 x.turn, .int .i64 x.own] TN (0, 0)) := heap_setCell_same _ w3.heap.size 2 _ TN (.int .i64 (x.ver + 1)) hrow
  have hfs : Fp (fun k => k = w3.heap.size) w4 ((w4.setCell ⟨w3.heap.size, 1, none⟩ (.string (B d))).setCell ⟨w3.heap.size, 2, none⟩ (.int .i64 (x.ver + 1))) := ((Fp.refl (fun k => k = w3.heap.size) _).setCell (p := ⟨w3.heap.size, 1, none⟩) (.inl rfl) _).setCell (p := ⟨w3.heap.size, 2, none⟩) (.inl rfl) _
  have hfw : Fp Non w ((w4.setCell ⟨w3.heap.size, 1, none⟩ (.string (B d))).setCell ⟨w3.heap.size, 2, none⟩ (.int .i64 (x.ver + 1))) := (K4.out.now.2.2.2.1.setCell (p := ⟨w3.heap.size, 1, none⟩) (.inr (by have := HW3.out; show w.heap.size ≤ w3.heap.size; omega)) _).setCell (p := ⟨w3.heap.size, 2, none⟩) (.inr (by have := HW3.out; show w.heap.size ≤ w3.heap.size; omega)) _
  have hbx := K4.out.now.2.2.1.keep hfs (fun k hk => .inr (by rw [hk]; exact HW3.out))
  have KW := zI (Kp.and (Kp.row hrow2) (Kp.and (Kp.bx hbx) (Kp.fp hfw)))
  have KD := zI (KW.out.later (Fp.refl Non _).drew)
  have hsd := box5 KD.out.now.1
  have HSD := zI hsd
  clear hrow hrow2 hfs hfw hbx KW hsd
  go_wp2_with fail
  refine wp_region_held_drew (S := (fun w' => w'.cell? ⟨w3.heap.size, 0, none⟩ = some (.string (B x.path)) ∧ w'.cell? ⟨w3.heap.size, 1, none⟩ = some (.string (B d)) ∧ w'.cell? ⟨w3.heap.size, 2, none⟩ = some (.int .i64 (x.ver + 1)) ∧ w'.cell? ⟨w3.heap.size, 3, none⟩ = some (.int .i64 x.turn) ∧ w'.cell? ⟨w3.heap.size, 4, none⟩ = some (.int .i64 x.own))) (by kernel_rfl) ?_ (fun hH => ?_)
  ·exact HSD.out
  generalize World.drew _ = wd at *
  refine tk 0 hH ?_
  refine tk 1 hH ?_
  refine tk 3 hH ?_
  refine tk 4 hH ?_
  refine tk 5 hH ?_
  refine rY 2 fun K hK => ?_
  go_simp
  go_at_call 62
  refine (HPU.out _ (HVV.out.non KD.out.now.2.2)).mono ?_
  rintro e w5 ⟨v5, rfl, ho, hf⟩
  have HO5 := zI (yI ho KD.out.now.2.1.sz)
  have K5 := zI (KD.out.later hf)
  have HS5 := zI (box5 (KD.out.later hf).now.1)
  clear ho hf
  go_wp2_with fail
  refine hK.out _ _ HS5.out (fun hH => ?_)
  clear hK K
  try simp only [zz]
  have hbr := K5.out.now.2.1
  have hfw := K5.out.now.2.2
  obtain ⟨r0, r1, r2, r3, r4⟩ := hbr.r
  have z0 := hbr.fz 0; have z1 := hbr.fz 1; have z2 := hbr.fz 2; have z3 := hbr.fz 3; have z4 := hbr.fz 4
  have HE := zI (yI hbr.res hfw)
  clear hbr hfw
  refine tk 6 hH ?_
  have hw9 := set5 HE.out.1 (.int .i64 0) (.string ⟨#[]⟩) (.string ⟨#[]⟩) (.int .i64 (x.ver + 1)) (.slice none 0 0)
  have hfz := fp5 (S := Non) HE.out.2 (b := w.heap.size + 1) (.inr (by omega)) (.int .i64 0) (.string ⟨#[]⟩) (.string ⟨#[]⟩) (.int .i64 (x.ver + 1)) (.slice none 0 0)
  have hfk := fp5k HE.out.1 (.int .i64 0) (.string ⟨#[]⟩) (.string ⟨#[]⟩) (.int .i64 (x.ver + 1)) (.slice none 0 0)
  have HS2 := zI (box5 (hfk.heap K5.out.now.1 (fun e => by have e : w3.heap.size = w.heap.size + 1 := e; have h := HW3.out; omega)) : (fun w' => w'.cell? ⟨w3.heap.size, 0, none⟩ = some (.string (B x.path)) ∧ w'.cell? ⟨w3.heap.size, 1, none⟩ = some (.string (B d)) ∧ w'.cell? ⟨w3.heap.size, 2, none⟩ = some (.int .i64 (x.ver + 1)) ∧ w'.cell? ⟨w3.heap.size, 3, none⟩ = some (.int .i64 x.turn) ∧ w'.cell? ⟨w3.heap.size, 4, none⟩ = some (.int .i64 x.own)) (((((w5.setCell ⟨w.heap.size + 1, 0, none⟩ (.int .i64 0)).setCell ⟨w.heap.size + 1, 1, none⟩ (.string ⟨#[]⟩)).setCell ⟨w.heap.size + 1, 2, none⟩ (.string ⟨#[]⟩)).setCell ⟨w.heap.size + 1, 3, none⟩ (.int .i64 (x.ver + 1))).setCell ⟨w.heap.size + 1, 4, none⟩ (.slice none 0 0)))
  refine rY 7 fun K hK => ?_
  go_simp
  refine hK.out _ _ HS2.out (fun hH => ?_)
  clear hK K
  try simp only [zz]
  refine dn ?_
  generalize (((((World.setCell w5 _ _).setCell _ _).setCell _ _).setCell _ _).setCell _ _) = wz at *
  go_wp2
  obtain ⟨s0, s1, s2, s3, s4⟩ := b5 hw9
  exact bodyPost_ret (v := .tuple #[v5, .agg #[.int .i64 0, .string ⟨#[]⟩, .string ⟨#[]⟩, .int .i64 (x.ver + 1), .slice none 0 0]]) (by simp [results, Tryz.results82, go_sem, s0, s1, s2, s3, s4]) rfl (⟨⟨v5, .slice none 0 0, rfl, HO5.out.1.ns.keep hfk (fun k hk e => by have h1 := (HO5.out.1.lt k hk).1; have h2 := HO5.out.2; omega), Own.nil _ _, fun k hk => .inr (by have h1 := (HO5.out.1.lt k hk).1; have h2 := HO5.out.2; omega)⟩, hfz⟩)
 have hv2 : vv = x.ver := by
  rcases Classical.em (vv = x.ver) with h | h
  ·exact h
  exact absurd ⟨hv1, h⟩ hver
 have qv0 : (0 ≤ vv) = True := eq_true (by omega)
 have qv1 : (vv < 0) = False := eq_false (by omega)
 have qv2 : (vv == x.ver) = true := beq_iff_eq.2 hv2
 have qv3 : (vv != x.ver) = false := by simp [hv2]
 have qv4 : (vv = x.ver) = True := eq_true hv2
 clear hver hv1 hv2
 by_cases hmx : x.ver = 281474976710656
 ·rw [if_pos hmx]
  have qm1 : (281474976710656 ≤ x.ver) = True := eq_true (by omega)
  clear hmx
  go_enter Tryz.func82, Tryz.ntmps82
  go_wp2_with fail
  refine (HRR.out _ HF0.out.now.2.2).mono ?_
  rintro e w1 ⟨rfl, hf⟩
  have K1 := zI (HF0.out.later hf)
  clear hf
  obtain ⟨o0, o1, o2, o3, o4, o5⟩ := box6 K1.out.now.1.op
  go_wp2_with fail
  refine (HMY.out _).mono ?_
  rintro e w2 ⟨rfl, hf⟩
  have K2 := zI (K1.out.later hf)
  clear hf o0 o1 o2 o3 o4 o5
  obtain ⟨o0, o1, o2, o3, o4, o5⟩ := box6 K2.out.now.1.op
  go_wp2_with fail
  refine (HFD.out _ K2.out.now.2.2).mono ?_
  rintro e w3 ⟨rfl, hf⟩
  have HW3 := zI (Nat.le_trans K2.out.now.1.sz hf.size)
  have hbx := heap_alloc_new w3 (.cells #[.string (B x.path), .string (B x.data), .int .i64 x.ver, .int .i64 x.turn, .int .i64 x.own] TN)
  have K3 := zI (Kp.and (Kp.row hbx) (K2.out.later (hf.alloc (.cells #[.string (B x.path), .string (B x.data), .int .i64 x.ver, .int .i64 x.turn, .int .i64 x.own] TN))))
  clear hf hbx o0 o1 o2 o3 o4 o5
  obtain ⟨x0, x1, x2, x3, x4⟩ := box5 K3.out.now.1
  obtain ⟨o0, o1, o2, o3, o4, o5⟩ := box6 K3.out.now.2.1.op
  go_wp2_with fail
  refine (HCH.out _ K3.out.now.2.2.2).mono ?_
  rintro e w4 ⟨v4, rfl, ho, hf⟩
  obtain ⟨a4, c4, rfl⟩ := ho.shape
  have K4 := zI (Kp.and (Kp.ns ho.ns) (K3.out.later hf))
  clear ho hf x0 x1 x2 x3 x4 o0 o1 o2 o3 o4 o5
  obtain ⟨x0, x1, x2, x3, x4⟩ := box5 K4.out.now.2.1
  obtain ⟨o0, o1, o2, o3, o4, o5⟩ := box6 K4.out.now.2.2.1.op
  have hbr := K4.out.now.2.2.1
  have hfw := K4.out.now.2.2.2.1
  obtain ⟨r0, r1, r2, r3, r4⟩ := hbr.r
  have z0 := hbr.fz 0; have z1 := hbr.fz 1; have z2 := hbr.fz 2; have z3 := hbr.fz 3; have z4 := hbr.fz 4
  have HE := zI (yI hbr.res hfw)
  clear hbr hfw
  go_wp2
  have hw9 := set5 HE.out.1 (.int .i64 2) (.string ⟨#[]⟩) (.string ⟨#[]⟩) (.int .i64 0) (.slice none 0 0)
  have hfz := fp5 (S := Non) HE.out.2 (b := w.heap.size + 1) (.inr (by omega)) (.int .i64 2) (.string ⟨#[]⟩) (.string ⟨#[]⟩) (.int .i64 0) (.slice none 0 0)
  have hfk := fp5k HE.out.1 (.int .i64 2) (.string ⟨#[]⟩) (.string ⟨#[]⟩) (.int .i64 0) (.slice none 0 0)
  generalize (((((World.setCell _ _ _).setCell _ _).setCell _ _).setCell _ _).setCell _ _) = wz at *
  obtain ⟨s0, s1, s2, s3, s4⟩ := b5 hw9
  exact bodyPost_ret (v := .tuple #[.slice ao n cap, .agg #[.int .i64 2, .string ⟨#[]⟩, .string ⟨#[]⟩, .int .i64 0, .slice none 0 0]]) (by simp [results, Tryz.results82, go_sem, s0, s1, s2, s3, s4]) rfl (res_bad (HVV.out.non hfz) hfz)
 rw [if_neg hmx]
 have qm1 : (281474976710656 ≤ x.ver) = False := eq_false (by omega)
 have hpu := fun w' hv => rPut_c (.slice ao l.length cap) l { x with data := d, ver := x.ver + 1 } w' hv (by have := HT.out.most; omega)
 rw [put_set2 HT.out HFX.out d (x.ver + 1), ← HNN.out] at hpu
 have HPU := zI hpu
 clear hmx hpu
 go_enter Tryz.func82, Tryz.ntmps82
 go_wp2_with fail
 refine (HRR.out _ HF0.out.now.2.2).mono ?_
 rintro e w1 ⟨rfl, hf⟩
 have K1 := zI (HF0.out.later hf)
 clear hf
 obtain ⟨o0, o1, o2, o3, o4, o5⟩ := box6 K1.out.now.1.op
 go_wp2_with fail
 refine (HMY.out _).mono ?_
 rintro e w2 ⟨rfl, hf⟩
 have K2 := zI (K1.out.later hf)
 clear hf o0 o1 o2 o3 o4 o5
 obtain ⟨o0, o1, o2, o3, o4, o5⟩ := box6 K2.out.now.1.op
 go_wp2_with fail
 refine (HFD.out _ K2.out.now.2.2).mono ?_
 rintro e w3 ⟨rfl, hf⟩
 have HW3 := zI (Nat.le_trans K2.out.now.1.sz hf.size)
 have hbx := heap_alloc_new w3 (.cells #[.string (B x.path), .string (B x.data), .int .i64 x.ver, .int .i64 x.turn, .int .i64 x.own] TN)
 have K3 := zI (Kp.and (Kp.row hbx) (K2.out.later (hf.alloc (.cells #[.string (B x.path), .string (B x.data), .int .i64 x.ver, .int .i64 x.turn, .int .i64 x.own] TN))))
 clear hf hbx o0 o1 o2 o3 o4 o5
 obtain ⟨x0, x1, x2, x3, x4⟩ := box5 K3.out.now.1
 obtain ⟨o0, o1, o2, o3, o4, o5⟩ := box6 K3.out.now.2.1.op
 go_wp2_with fail
 refine (HCH.out _ K3.out.now.2.2.2).mono ?_
 rintro e w4 ⟨v4, rfl, ho, hf⟩
 obtain ⟨a4, c4, rfl⟩ := ho.shape
 have K4 := zI (Kp.and (Kp.ns ho.ns) (K3.out.later hf))
 clear ho hf x0 x1 x2 x3 x4 o0 o1 o2 o3 o4 o5
 obtain ⟨x0, x1, x2, x3, x4⟩ := box5 K4.out.now.2.1
 obtain ⟨o0, o1, o2, o3, o4, o5⟩ := box6 K4.out.now.2.2.1.op
 have fz := frozen_at K4.out.now.2.1
 have f1 := fz 1
 have f2 := fz 2
 clear fz
 have hrow := heap_setCell_same _ w3.heap.size 1 _ TN (.string (B d)) K4.out.now.2.1
 have hrow2 : ((w4.setCell ⟨w3.heap.size, 1, none⟩ (.string (B d))).setCell ⟨w3.heap.size, 2, none⟩ (.int .i64 (x.ver + 1))).heap[w3.heap.size]? = some (.cells #[.string (B x.path), .string (B d), .int .i64 (x.ver + 1), .int .i64 x.turn, .int .i64 x.own] TN (0, 0)) := heap_setCell_same _ w3.heap.size 2 _ TN (.int .i64 (x.ver + 1)) hrow
 have hfs : Fp (fun k => k = w3.heap.size) w4 ((w4.setCell ⟨w3.heap.size, 1, none⟩ (.string (B d))).setCell ⟨w3.heap.size, 2, none⟩ (.int .i64 (x.ver + 1))) := ((Fp.refl (fun k => k = w3.heap.size) _).setCell (p := ⟨w3.heap.size, 1, none⟩) (.inl rfl) _).setCell (p := ⟨w3.heap.size, 2, none⟩) (.inl rfl) _
 have hfw : Fp Non w ((w4.setCell ⟨w3.heap.size, 1, none⟩ (.string (B d))).setCell ⟨w3.heap.size, 2, none⟩ (.int .i64 (x.ver + 1))) := (K4.out.now.2.2.2.1.setCell (p := ⟨w3.heap.size, 1, none⟩) (.inr (by have := HW3.out; show w.heap.size ≤ w3.heap.size; omega)) _).setCell (p := ⟨w3.heap.size, 2, none⟩) (.inr (by have := HW3.out; show w.heap.size ≤ w3.heap.size; omega)) _
 have hbx := K4.out.now.2.2.1.keep hfs (fun k hk => .inr (by rw [hk]; exact HW3.out))
 have KW := zI (Kp.and (Kp.row hrow2) (Kp.and (Kp.bx hbx) (Kp.fp hfw)))
 have KD := zI (KW.out.later (Fp.refl Non _).drew)
 have hsd := box5 KD.out.now.1
 have HSD := zI hsd
 clear hrow hrow2 hfs hfw hbx KW hsd
 go_wp2_with fail
 refine wp_region_held_drew (S := (fun w' => w'.cell? ⟨w3.heap.size, 0, none⟩ = some (.string (B x.path)) ∧ w'.cell? ⟨w3.heap.size, 1, none⟩ = some (.string (B d)) ∧ w'.cell? ⟨w3.heap.size, 2, none⟩ = some (.int .i64 (x.ver + 1)) ∧ w'.cell? ⟨w3.heap.size, 3, none⟩ = some (.int .i64 x.turn) ∧ w'.cell? ⟨w3.heap.size, 4, none⟩ = some (.int .i64 x.own))) (by kernel_rfl) ?_ (fun hH => ?_)
 ·exact HSD.out
 generalize World.drew _ = wd at *
 refine tk 0 hH ?_
 refine tk 1 hH ?_
 refine tk 3 hH ?_
 refine tk 4 hH ?_
 refine tk 5 hH ?_
 refine rY 2 fun K hK => ?_
 go_simp
 go_at_call 62
 refine (HPU.out _ (HVV.out.non KD.out.now.2.2)).mono ?_
 rintro e w5 ⟨v5, rfl, ho, hf⟩
 have HO5 := zI (yI ho KD.out.now.2.1.sz)
 have K5 := zI (KD.out.later hf)
 have HS5 := zI (box5 (KD.out.later hf).now.1)
 clear ho hf
 go_wp2_with fail
 refine hK.out _ _ HS5.out (fun hH => ?_)
 clear hK K
 try simp only [zz]
 have hbr := K5.out.now.2.1
 have hfw := K5.out.now.2.2
 obtain ⟨r0, r1, r2, r3, r4⟩ := hbr.r
 have z0 := hbr.fz 0; have z1 := hbr.fz 1; have z2 := hbr.fz 2; have z3 := hbr.fz 3; have z4 := hbr.fz 4
 have HE := zI (yI hbr.res hfw)
 clear hbr hfw
 refine tk 6 hH ?_
 have hw9 := set5 HE.out.1 (.int .i64 0) (.string ⟨#[]⟩) (.string ⟨#[]⟩) (.int .i64 (x.ver + 1)) (.slice none 0 0)
 have hfz := fp5 (S := Non) HE.out.2 (b := w.heap.size + 1) (.inr (by omega)) (.int .i64 0) (.string ⟨#[]⟩) (.string ⟨#[]⟩) (.int .i64 (x.ver + 1)) (.slice none 0 0)
 have hfk := fp5k HE.out.1 (.int .i64 0) (.string ⟨#[]⟩) (.string ⟨#[]⟩) (.int .i64 (x.ver + 1)) (.slice none 0 0)
 have HS2 := zI (box5 (hfk.heap K5.out.now.1 (fun e => by have e : w3.heap.size = w.heap.size + 1 := e; have h := HW3.out; omega)) : (fun w' => w'.cell? ⟨w3.heap.size, 0, none⟩ = some (.string (B x.path)) ∧ w'.cell? ⟨w3.heap.size, 1, none⟩ = some (.string (B d)) ∧ w'.cell? ⟨w3.heap.size, 2, none⟩ = some (.int .i64 (x.ver + 1)) ∧ w'.cell? ⟨w3.heap.size, 3, none⟩ = some (.int .i64 x.turn) ∧ w'.cell? ⟨w3.heap.size, 4, none⟩ = some (.int .i64 x.own)) (((((w5.setCell ⟨w.heap.size + 1, 0, none⟩ (.int .i64 0)).setCell ⟨w.heap.size + 1, 1, none⟩ (.string ⟨#[]⟩)).setCell ⟨w.heap.size + 1, 2, none⟩ (.string ⟨#[]⟩)).setCell ⟨w.heap.size + 1, 3, none⟩ (.int .i64 (x.ver + 1))).setCell ⟨w.heap.size + 1, 4, none⟩ (.slice none 0 0)))
 refine rY 7 fun K hK => ?_
 go_simp
 refine hK.out _ _ HS2.out (fun hH => ?_)
 clear hK K
 try simp only [zz]
 refine dn ?_
 generalize (((((World.setCell w5 _ _).setCell _ _).setCell _ _).setCell _ _).setCell _ _) = wz at *
 go_wp2
 obtain ⟨s0, s1, s2, s3, s4⟩ := b5 hw9
 exact bodyPost_ret (v := .tuple #[v5, .agg #[.int .i64 0, .string ⟨#[]⟩, .string ⟨#[]⟩, .int .i64 (x.ver + 1), .slice none 0 0]]) (by simp [results, Tryz.results82, go_sem, s0, s1, s2, s3, s4]) rfl (⟨⟨v5, .slice none 0 0, rfl, HO5.out.1.ns.keep hfk (fun k hk e => by have h1 := (HO5.out.1.lt k hk).1; have h2 := HO5.out.2; omega), Own.nil _ _, fun k hk => .inr (by have h1 := (HO5.out.1.lt k hk).1; have h2 := HO5.out.2; omega)⟩, hfz⟩)
set_option maxHeartbeats 16000000 in
theorem rApply_6 (v : Value) (l : List Nd) (p d : Bs) (vv ow : Int) (tt : Bool) (w : World) (hv : Ns w v l) (hT : Tr l) (hm : may ⟨6, p, d, vv, ow, tt⟩ = true) :
  Calls Tryz.prog 82 #[v, .agg #[.int .i64 6, .string (B p), .string (B d), .int .i64 vv, .int .i64 ow, .bool tt]] w (ApB w v (perform l ⟨6, p, d, vv, ow, tt⟩).1 (perform l ⟨6, p, d, vv, ow, tt⟩).2) := by
 obtain ⟨ao, cap, rfl⟩ := hv.shape
 have hpl : p.length ≤ 1000000 := may_len2 hm
 have hrr := fun w' hv => rRightN_g (.slice ao l.length cap) l w' hv (tr_few hT).2
 rw [right_true hT.tree] at hrr
 have hmy := fun w' => rMay_c ⟨6, p, d, vv, ow, tt⟩ w' hpl
 rw [hm] at hmy
 have hfd := fun w' hv => rFind_c (.slice ao l.length cap) l p w' hv (tr_few hT).1
 have hcl := parent_ok hm
 have hln := hT.most
 rw [perform_not1 (l := l) (o := ⟨6, p, d, vv, ow, tt⟩) (by simp)]
 simp only
 have hdo : ∀ x, doit l ⟨6, p, d, vv, ow, tt⟩ x = (l, ⟨0, [], [], 0, (kids l p).map (fun n => last n.path)⟩) := fun x => by unfold doit; simp
 have hb0 := Bx.made w 6 p d vv ow tt
 have hf0 : Fp Non w ((w.alloc (.cells #[.int .i64 6, .string (B p), .string (B d), .int .i64 vv, .int .i64 ow, .bool tt] TO_)).alloc (.cells #[.int .i64 0, .string ⟨#[]⟩, .string ⟨#[]⟩, .int .i64 0, .slice none 0 0] TR)) := (fp_alloc w _).then (fp_alloc _ _)
 have HF0 := zI (Kp.and (fun W' f => hb0.non f : Kp (Bx w 6 p d vv ow tt) ((w.alloc (.cells #[.int .i64 6, .string (B p), .string (B d), .int .i64 vv, .int .i64 ow, .bool tt] TO_)).alloc (.cells #[.int .i64 0, .string ⟨#[]⟩, .string ⟨#[]⟩, .int .i64 0, .slice none 0 0] TR))) (Kp.and (Kp.fp hf0) (Kp.ns (hv.non hf0))))
 have HRR := zI hrr
 have HMY := zI hmy
 have HT := zI hT
 have HM := zI hm
 have HVV := zI hv
 unfold opV strV at HMY
 simp only at HMY
 clear hrr hmy hf0 hb0 hv hT hm hpl
 cases hfx : find l p with
 | none =>
  rw [hfx] at hfd
  simp only [Option.getD_none, Option.isSome_none, ndV, strV, zeroNd] at hfd
  dsimp only
  obtain ⟨n, hnn⟩ : ∃ n, n = l.length := ⟨_, rfl⟩
  rw [← hnn] at HVV hfd HF0 HRR ⊢
  have HFD := zI hfd
  have HNN := zI hnn
  clear hfd hfx hnn
  go_enter Tryz.func82, Tryz.ntmps82
  go_wp2_with fail
  refine (HRR.out _ HF0.out.now.2.2).mono ?_
  rintro e w1 ⟨rfl, hf⟩
  have K1 := zI (HF0.out.later hf)
  clear hf
  obtain ⟨o0, o1, o2, o3, o4, o5⟩ := box6 K1.out.now.1.op
  go_wp2_with fail
  refine (HMY.out _).mono ?_
  rintro e w2 ⟨rfl, hf⟩
  have K2 := zI (K1.out.later hf)
  clear hf o0 o1 o2 o3 o4 o5
  obtain ⟨o0, o1, o2, o3, o4, o5⟩ := box6 K2.out.now.1.op
  go_wp2_with fail
  refine (HFD.out _ K2.out.now.2.2).mono ?_
  rintro e w3 ⟨rfl, hf⟩
  have HW3 := zI (Nat.le_trans K2.out.now.1.sz hf.size)
  have K3 := zI (K2.out.later (hf.alloc (.cells #[.string (B []), .string (B []), .int .i64 0, .int .i64 0, .int .i64 0] TN)))
  clear hf
  have hbr := K3.out.now.1
  have hfw := K3.out.now.2.1
  obtain ⟨r0, r1, r2, r3, r4⟩ := hbr.r
  have z0 := hbr.fz 0; have z1 := hbr.fz 1; have z2 := hbr.fz 2; have z3 := hbr.fz 3; have z4 := hbr.fz 4
  have HE := zI (yI hbr.res hfw)
  clear hbr hfw
  go_wp2
  have hw9 := set5 HE.out.1 (.int .i64 62) (.string ⟨#[]⟩) (.string ⟨#[]⟩) (.int .i64 0) (.slice none 0 0)
  have hfz := fp5 (S := Non) HE.out.2 (b := w.heap.size + 1) (.inr (by omega)) (.int .i64 62) (.string ⟨#[]⟩) (.string ⟨#[]⟩) (.int .i64 0) (.slice none 0 0)
  have hfk := fp5k HE.out.1 (.int .i64 62) (.string ⟨#[]⟩) (.string ⟨#[]⟩) (.int .i64 0) (.slice none 0 0)
  generalize (((((World.setCell _ _ _).setCell _ _).setCell _ _).setCell _ _).setCell _ _) = wz at *
  obtain ⟨s0, s1, s2, s3, s4⟩ := b5 hw9
  exact bodyPost_ret (v := .tuple #[.slice ao n cap, .agg #[.int .i64 62, .string ⟨#[]⟩, .string ⟨#[]⟩, .int .i64 0, .slice none 0 0]]) (by simp [results, Tryz.results82, go_sem, s0, s1, s2, s3, s4]) rfl (res_bad (HVV.out.non hfz) hfz)
 | some x => ?_
 rw [hfx] at hfd
 simp only [Option.getD_some, Option.isSome_some, ndV, strV] at hfd
 dsimp only
 have HFX := zI hfx
 have hft := (fits_iff x).1 (HT.out.fit x (find_mem hfx).1)
 have HFT := zI hft
 have hxv : 0 ≤ x.ver ∧ x.ver ≤ 281474976710656 := by omega
 have hch := fun w' hv => rChildren_c (.slice ao l.length cap) l p w' hv (tr_few HT.out).2 (by omega)
 obtain ⟨n, hnn⟩ : ∃ n, n = l.length := ⟨_, rfl⟩
 rw [← hnn] at HVV hfd HF0 HRR hch hln ⊢
 have HFD := zI hfd
 have HCH := zI hch
 have HNN := zI hnn
 clear hfd hfx hnn hft hch
 rw [if_neg (by simp [versioned]), hdo]
 go_enter Tryz.func82, Tryz.ntmps82
 go_wp2_with fail
 refine (HRR.out _ HF0.out.now.2.2).mono ?_
 rintro e w1 ⟨rfl, hf⟩
 have K1 := zI (HF0.out.later hf)
 clear hf
 obtain ⟨o0, o1, o2, o3, o4, o5⟩ := box6 K1.out.now.1.op
 go_wp2_with fail
 refine (HMY.out _).mono ?_
 rintro e w2 ⟨rfl, hf⟩
 have K2 := zI (K1.out.later hf)
 clear hf o0 o1 o2 o3 o4 o5
 obtain ⟨o0, o1, o2, o3, o4, o5⟩ := box6 K2.out.now.1.op
 go_wp2_with fail
 refine (HFD.out _ K2.out.now.2.2).mono ?_
 rintro e w3 ⟨rfl, hf⟩
 have HW3 := zI (Nat.le_trans K2.out.now.1.sz hf.size)
 have hbx := heap_alloc_new w3 (.cells #[.string (B x.path), .string (B x.data), .int .i64 x.ver, .int .i64 x.turn, .int .i64 x.own] TN)
 have K3 := zI (Kp.and (Kp.row hbx) (K2.out.later (hf.alloc (.cells #[.string (B x.path), .string (B x.data), .int .i64 x.ver, .int .i64 x.turn, .int .i64 x.own] TN))))
 clear hf hbx o0 o1 o2 o3 o4 o5
 obtain ⟨x0, x1, x2, x3, x4⟩ := box5 K3.out.now.1
 obtain ⟨o0, o1, o2, o3, o4, o5⟩ := box6 K3.out.now.2.1.op
 go_wp2_with fail
 refine (HCH.out _ K3.out.now.2.2.2).mono ?_
 rintro e w4 ⟨v4, rfl, ho, hf⟩
 obtain ⟨a4, c4, rfl⟩ := ho.shape
 have K4 := zI (Kp.and (Kp.ns ho.ns) (K3.out.later hf))
 clear ho hf x0 x1 x2 x3 x4 o0 o1 o2 o3 o4 o5
 obtain ⟨x0, x1, x2, x3, x4⟩ := box5 K4.out.now.2.1
 obtain ⟨o0, o1, o2, o3, o4, o5⟩ := box6 K4.out.now.2.2.1.op
 obtain ⟨ks, hks⟩ : ∃ ks, ks = kids l p := ⟨_, rfl⟩
 rw [← hks] at K4 ⊢
 have HKS := zI hks
 obtain ⟨kn, hkn⟩ : ∃ kn, kn = ks.length := ⟨_, rfl⟩
 rw [← hkn] at K4 ⊢
 have HKN := zI hkn
 have hkb : kn ≤ 512 := by rw [hkn, hks]; exact Nat.le_trans (List.length_filter_le _ _) HT.out.most
 have hsp : Sp ks := by rw [hks]; exact fun x hx => (tr_few HT.out).2 x (List.mem_filter.1 hx).1
 have HSP := zI hsp
 have HW4 := zI K4.out.now.2.2.1.sz
 clear hks hkn hsp x0 x1 x2 x3 x4
 have H0 : Hid (Own w4.heap.size w4 (.slice none 0 0) ((ks.take 0).map (fun n => last n.path)) ∧ Fp Non w4 w4) := ⟨by rw [List.take_zero]; exact Own.nil _ _, Fp.refl _ _⟩
 go_wp2_with fail
 clear o0 o1 o2 o3 o4 o5
 go_loopw [0, 10, 11] (fun lv nv i wr => ∃ j : Nat, j ≤ kn ∧ i = .int .i64 j ∧ lv = .slice ao n cap ∧ Hid (Own w4.heap.size wr nv ((ks.take j).map (fun n => last n.path)) ∧ Fp Non w4 wr)) (fun _ _ i _ => kn - (RowKit.intOf i).toNat)
 case atStart => exact ⟨0, Nat.zero_le _, rfl, rfl, H0⟩
 clear H0
 obtain ⟨j, hj, rfl, rfl, hR⟩ := hrel
 rename_i wr _
 have HK := zI (K4.out.later hR.out.2)
 obtain ⟨o0, o1, o2, o3, o4, o5⟩ := box6 HK.out.now.2.2.1.op
 obtain ⟨nao, ncap, rfl⟩ := hR.out.1.shape
 by_cases hlt : j < kn
 ·have hkl : j < ks.length := by rw [← HKN.out]; exact hlt
  obtain ⟨g, o, cap', e, _, _, _, hcell⟩ := HK.out.now.1.at (by omega)
  injection e with e1 e2 e3
  subst e1 e3
  clear e2
  have hnd := hcell j hkl
  have hxs := HSP.out _ (List.getElem_mem hkl)
  have htk : ks.take (j + 1) = ks.take j ++ [ks[j]] := List.take_succ_eq_append_getElem hkl
  have hnl : ((ks.take j).map (fun n => last n.path)).length ≤ 512 := by
   rw [List.length_map]
   exact Nat.le_trans (by rw [List.length_take]; omega) hkb
  generalize ks[j] = x at *
  have hla := fun w => rLast_g x.path w (sz_of hxs (by omega))
  have HLA := zI hla
  have HND := zI hnd
  have HTK := zI htk
  have HNL := zI hnl
  have HL := zI hlt
  have q3 : ((j : Int) < (kn : Int)) = True := eq_true (by omega)
  have q4 : (j < kn) = True := eq_true hlt
  have c0 := hnd.c0; have c4' := hnd.c4
  unfold strV at c0
  clear hla hnd htk hcell hxs hkl hlt
  obtain ⟨ps, hps⟩ : ∃ ps, ps = ((ks.take j).map (fun n => last n.path)) := ⟨_, rfl⟩
  rw [← hps] at hnl ⊢
  have HPS := zI hps
  clear hnl
  clear hps
  go_wp2_with fail
  refine (HLA.out _).mono ?_
  rintro e w6 ⟨rfl, g6⟩
  have F6 := zI (hR.out.2.then g6.fp)
  have hown6 : Own w4.heap.size w6 (.slice nao ps.length ncap) ps := by
   have := hR.out.1.grown' ((show Fp Non wr w6 from g6.fp))
   rw [← HPS.out] at this; exact this
  have hap := app_name w6 w4.heap.size _ ps (last x.path) TSs hown6 (by have := HNL.out; rw [← HPS.out] at this; omega) F6.out.size
  have HAP := zI hap
  clear g6 hown6 hap
  go_wp2_with (at_builtin; go_must (refine wpList_app rfl _ _ _ _ rfl _ _ rfl rfl _ HAP.out ?_))
  intro v7 w7 hR7
  have HR7 := zI (yI hR7.own (F6.out.trans hR7.fp (fun k hk => .inr hk)))
  clear hR7 o0 o1 o2 o3 o4 o5 c0 c4'
  have hj1 := HL.out
  go_wp2
  go_roundw
  case rel => exact ⟨j + 1, by omega, by go_num, rfl, ⟨by rw [HTK.out, List.map_append]; have := HR7.out.1; rw [HPS.out] at this; exact this, HR7.out.2⟩⟩
  case measure => simp [RowKit.intOf]; omega
 have hke : j = kn := by omega
 subst hke
 have q3 : ((j : Int) < (j : Int)) = False := eq_false (by omega)
 have hown := hR.out.1
 rw [List.take_of_length_le (by rw [← HKN.out]; exact Nat.le_refl _)] at hown ⊢
 obtain ⟨nl, hnl⟩ : ∃ nl, nl = (ks.map (fun n => last n.path)).length := ⟨_, rfl⟩
 rw [← hnl] at hown ⊢
 have HOW := zI hown
 clear hlt hj hown hnl o0 o1 o2 o3 o4 o5
 have hbr := HK.out.now.2.2.1
 have hfw := HK.out.now.2.2.2.1
 obtain ⟨r0, r1, r2, r3, r4⟩ := hbr.r
 have z0 := hbr.fz 0; have z1 := hbr.fz 1; have z2 := hbr.fz 2; have z3 := hbr.fz 3; have z4 := hbr.fz 4
 have HE := zI (yI hbr.res hfw)
 clear hbr hfw
 go_wp2
 have hw9 := set5 HE.out.1 (.int .i64 0) (.string ⟨#[]⟩) (.string ⟨#[]⟩) (.int .i64 0) (.slice nao nl ncap)
 have hfz := fp5 (S := Non) HE.out.2 (b := w.heap.size + 1) (.inr (by omega)) (.int .i64 0) (.string ⟨#[]⟩) (.string ⟨#[]⟩) (.int .i64 0) (.slice nao nl ncap)
 have hfk := fp5k HE.out.1 (.int .i64 0) (.string ⟨#[]⟩) (.string ⟨#[]⟩) (.int .i64 0) (.slice nao nl ncap)
 generalize (((((World.setCell _ _ _).setCell _ _).setCell _ _).setCell _ _).setCell _ _) = wz at *
 obtain ⟨s0, s1, s2, s3, s4⟩ := b5 hw9
 exact bodyPost_ret (v := .tuple #[.slice ao n cap, .agg #[.int .i64 0, .string ⟨#[]⟩, .string ⟨#[]⟩, .int .i64 0, .slice nao nl ncap]]) (by simp [results, Tryz.results82, go_sem, s0, s1, s2, s3, s4]) rfl (⟨⟨.slice ao n cap, .slice nao nl ncap, rfl, HVV.out.non hfz, by (show Own w.heap.size wz _ ((kids l p).map (fun n => last n.path))); rw [← HKS.out]; exact Own.low ⟨hfk.owns HOW.out.1 (fun k hk e => by have e : k = w.heap.size + 1 := e; have h1 := (HOW.out.1.lt k hk).1; have h2 := HW4.out; omega), HOW.out.2⟩ (by have h2 := HW4.out; omega), fun k hk => .inl hk⟩, hfz⟩)
structure AnR2 (lo : Nat) (v : Value) (w : World) (ps : List Bs) (v' : Value) (w' : World) : Prop where
 own : Own lo w' v' ps
 fp : Fp (fun k => v.ownBlock = some k) w w'
 blk : ∀ k, v'.ownBlock = some k → v.ownBlock = some k ∨ w.heap.size ≤ k
theorem app_name2 (w : World) (lo : Nat) (v : Value) (ps : List Bs) (x : Bs) (ty : TypeId) (ho : Own lo w v ps) (hn : ps.length ≤ 100000) (hlo : lo ≤ w.heap.size) :
  ∃ v' w', (Builtin.append_ #[TSs, TSs] ty #[v, .slice (some ⟨w.heap.size, 0, none⟩) 1 1]).run Tryz.prog (w.alloc (.cells #[.string (B x)] 9)) = .ok v' w' ∧ AnR2 lo v w (ps ++ [x]) v' w' := by
 obtain ⟨i0, hi, hz0, hz1, hz2⟩ := info_parts Tryz.infoS
 have hc : (w.alloc (.cells #[.string (B x)] 9)).cell? ⟨w.heap.size, 0, none⟩ = some (strV x) := by rw [cell_of_row _ _ _ _ _ _ (heap_alloc_new w _)]; rfl
 obtain ⟨v', w', hr, h4, h5, h7, h8⟩ := run_append_own_at (P := Tryz.prog) (w.alloc (.cells #[.string (B x)] 9)) lo TSs ty 9 i0 (.string ⟨#[]⟩) 1 16 Tryz.underlying32 hi hz0 hz1 hz2 rfl (by decide) v ps.length (ps.map strV) (ho.1.alloc _)
  ⟨w.heap.size, 0, none⟩ 1 1 [strV x] rfl (fun j u hu => by
   cases j with
   | zero => rw [Addr.add_lit, ← Option.some.inj hu]; exact hc
   | succ j => simp at hu) (one_c2 x) (by unfold maxLen; omega) (by omega) (by simp; omega)
 refine ⟨v', w', hr, ⟨⟨by simpa using h4, fun e => by simp at e⟩, ((Fp.refl (fun k => v.ownBlock = some k) w).alloc _).grown h5 (fun k hk => .inl hk), fun k hk => ?_⟩⟩
 rcases h8 with h8 | h8
 ·left; rw [← h8]; exact hk
 right
 rw [h8] at hk
 have := Option.some.inj hk
 simp at this; omega
theorem own_blk (a : Option Addr) (n c n2 c2 : Nat) : (Value.slice a n c).ownBlock = (Value.slice a n2 c2).ownBlock := by cases a <;> rfl
structure SwM (l ks : List Nd) (ow : Int) (w w4 : World) (v0 : Value) (j : Nat) (lv nv : Value) (wr : World) : Prop where
 own : Own w4.heap.size wr nv (((ks.take j).filter (fun c => c.own == ow)).map (fun n => last n.path))
 fp : Fp Non w4 wr
 ns : Ns wr lv (Pm.cur l (ks.take j) ow)
 blk : ∀ q, lv.ownBlock = some q → ((q < w.heap.size ∧ v0.ownBlock = some q) ∨ w4.heap.size ≤ q) ∧ q < wr.heap.size ∧ nv.ownBlock ≠ some q
theorem Ns.blk {w : World} {v : Value} {l : List Nd} (h : Ns w v l) (h0 : 0 < l.length) (q : Nat) (hq : v.ownBlock = some q) : q < w.heap.size := by
 obtain ⟨g, o, cap, rfl, _, _, hg, _⟩ := h.at h0
 simp [Value.ownBlock] at hq
 subst hq; exact hg
set_option maxHeartbeats 16000000 in
theorem rApply_7 (v : Value) (l : List Nd) (p d : Bs) (vv ow : Int) (tt : Bool) (w : World) (hv : Ns w v l) (hT : Tr l) (hm : may ⟨7, p, d, vv, ow, tt⟩ = true) :
  Calls Tryz.prog 82 #[v, .agg #[.int .i64 7, .string (B p), .string (B d), .int .i64 vv, .int .i64 ow, .bool tt]] w (ApB w v (perform l ⟨7, p, d, vv, ow, tt⟩).1 (perform l ⟨7, p, d, vv, ow, tt⟩).2) := by
 obtain ⟨ao, cap, rfl⟩ := hv.shape
 have hpl : p.length ≤ 1000000 := may_len2 hm
 have hrr := fun w' hv => rRightN_g (.slice ao l.length cap) l w' hv (tr_few hT).2
 rw [right_true hT.tree] at hrr
 have hmy := fun w' => rMay_c ⟨7, p, d, vv, ow, tt⟩ w' hpl
 rw [hm] at hmy
 have hfd := fun w' hv => rFind_c (.slice ao l.length cap) l p w' hv (tr_few hT).1
 have hcl := parent_ok hm
 have hln := hT.most
 rw [perform_not1 (l := l) (o := ⟨7, p, d, vv, ow, tt⟩) (by simp)]
 simp only
 have hdo : ∀ x, doit l ⟨7, p, d, vv, ow, tt⟩ x = (l.filter (fun n => !swept ⟨7, p, d, vv, ow, tt⟩ n), ⟨0, [], [], 0, (l.filter (swept ⟨7, p, d, vv, ow, tt⟩)).map (fun n => last n.path)⟩) := fun x => by unfold doit; simp
 have hb0 := Bx.made w 7 p d vv ow tt
 have hf0 : Fp Non w ((w.alloc (.cells #[.int .i64 7, .string (B p), .string (B d), .int .i64 vv, .int .i64 ow, .bool tt] TO_)).alloc (.cells #[.int .i64 0, .string ⟨#[]⟩, .string ⟨#[]⟩, .int .i64 0, .slice none 0 0] TR)) := (fp_alloc w _).then (fp_alloc _ _)
 have HF0 := zI (Kp.and (fun W' f => hb0.non f : Kp (Bx w 7 p d vv ow tt) ((w.alloc (.cells #[.int .i64 7, .string (B p), .string (B d), .int .i64 vv, .int .i64 ow, .bool tt] TO_)).alloc (.cells #[.int .i64 0, .string ⟨#[]⟩, .string ⟨#[]⟩, .int .i64 0, .slice none 0 0] TR))) (Kp.and (Kp.fp hf0) (Kp.ns (hv.non hf0))))
 have HRR := zI hrr
 have HMY := zI hmy
 have HT := zI hT
 have HM := zI hm
 have HVV := zI hv
 unfold opV strV at HMY
 simp only at HMY
 clear hrr hmy hf0 hb0 hv hT hm hpl
 cases hfx : find l p with
 | none =>
  rw [hfx] at hfd
  simp only [Option.getD_none, Option.isSome_none, ndV, strV, zeroNd] at hfd
  dsimp only
  obtain ⟨n, hnn⟩ : ∃ n, n = l.length := ⟨_, rfl⟩
  rw [← hnn] at HVV hfd HF0 HRR ⊢
  have HFD := zI hfd
  have HNN := zI hnn
  clear hfd hfx hnn
  go_enter Tryz.func82, Tryz.ntmps82
  go_wp2_with fail
  refine (HRR.out _ HF0.out.now.2.2).mono ?_
  rintro e w1 ⟨rfl, hf⟩
  have K1 := zI (HF0.out.later hf)
  clear hf
  obtain ⟨o0, o1, o2, o3, o4, o5⟩ := box6 K1.out.now.1.op
  go_wp2_with fail
  refine (HMY.out _).mono ?_
  rintro e w2 ⟨rfl, hf⟩
  have K2 := zI (K1.out.later hf)
  clear hf o0 o1 o2 o3 o4 o5
  obtain ⟨o0, o1, o2, o3, o4, o5⟩ := box6 K2.out.now.1.op
  go_wp2_with fail
  refine (HFD.out _ K2.out.now.2.2).mono ?_
  rintro e w3 ⟨rfl, hf⟩
  have HW3 := zI (Nat.le_trans K2.out.now.1.sz hf.size)
  have K3 := zI (K2.out.later (hf.alloc (.cells #[.string (B []), .string (B []), .int .i64 0, .int .i64 0, .int .i64 0] TN)))
  clear hf
  have hbr := K3.out.now.1
  have hfw := K3.out.now.2.1
  obtain ⟨r0, r1, r2, r3, r4⟩ := hbr.r
  have z0 := hbr.fz 0; have z1 := hbr.fz 1; have z2 := hbr.fz 2; have z3 := hbr.fz 3; have z4 := hbr.fz 4
  have HE := zI (yI hbr.res hfw)
  clear hbr hfw
  go_wp2
  have hw9 := set5 HE.out.1 (.int .i64 62) (.string ⟨#[]⟩) (.string ⟨#[]⟩) (.int .i64 0) (.slice none 0 0)
  have hfz := fp5 (S := Non) HE.out.2 (b := w.heap.size + 1) (.inr (by omega)) (.int .i64 62) (.string ⟨#[]⟩) (.string ⟨#[]⟩) (.int .i64 0) (.slice none 0 0)
  have hfk := fp5k HE.out.1 (.int .i64 62) (.string ⟨#[]⟩) (.string ⟨#[]⟩) (.int .i64 0) (.slice none 0 0)
  generalize (((((World.setCell _ _ _).setCell _ _).setCell _ _).setCell _ _).setCell _ _) = wz at *
  obtain ⟨s0, s1, s2, s3, s4⟩ := b5 hw9
  exact bodyPost_ret (v := .tuple #[.slice ao n cap, .agg #[.int .i64 62, .string ⟨#[]⟩, .string ⟨#[]⟩, .int .i64 0, .slice none 0 0]]) (by simp [results, Tryz.results82, go_sem, s0, s1, s2, s3, s4]) rfl (res_bad (HVV.out.non hfz) hfz)
 | some x => ?_
 rw [hfx] at hfd
 simp only [Option.getD_some, Option.isSome_some, ndV, strV] at hfd
 dsimp only
 have HFX := zI hfx
 have hft := (fits_iff x).1 (HT.out.fit x (find_mem hfx).1)
 have HFT := zI hft
 have hxv : 0 ≤ x.ver ∧ x.ver ≤ 281474976710656 := by omega
 have hch := fun w' hv => rChildren_c (.slice ao l.length cap) l p w' hv (tr_few HT.out).2 (by omega)
 obtain ⟨n, hnn⟩ : ∃ n, n = l.length := ⟨_, rfl⟩
 rw [← hnn] at HVV hfd HF0 HRR hch hln ⊢
 have HFD := zI hfd
 have HCH := zI hch
 have HNN := zI hnn
 clear hfd hfx hnn hft hch
 rw [if_neg (by simp [versioned]), hdo]
 go_enter Tryz.func82, Tryz.ntmps82
 go_wp2_with fail
 refine (HRR.out _ HF0.out.now.2.2).mono ?_
 rintro e w1 ⟨rfl, hf⟩
 have K1 := zI (HF0.out.later hf)
 clear hf
 obtain ⟨o0, o1, o2, o3, o4, o5⟩ := box6 K1.out.now.1.op
 go_wp2_with fail
 refine (HMY.out _).mono ?_
 rintro e w2 ⟨rfl, hf⟩
 have K2 := zI (K1.out.later hf)
 clear hf o0 o1 o2 o3 o4 o5
 obtain ⟨o0, o1, o2, o3, o4, o5⟩ := box6 K2.out.now.1.op
 go_wp2_with fail
 refine (HFD.out _ K2.out.now.2.2).mono ?_
 rintro e w3 ⟨rfl, hf⟩
 have HW3 := zI (Nat.le_trans K2.out.now.1.sz hf.size)
 have hbx := heap_alloc_new w3 (.cells #[.string (B x.path), .string (B x.data), .int .i64 x.ver, .int .i64 x.turn, .int .i64 x.own] TN)
 have K3 := zI (Kp.and (Kp.row hbx) (K2.out.later (hf.alloc (.cells #[.string (B x.path), .string (B x.data), .int .i64 x.ver, .int .i64 x.turn, .int .i64 x.own] TN))))
 clear hf hbx o0 o1 o2 o3 o4 o5
 obtain ⟨x0, x1, x2, x3, x4⟩ := box5 K3.out.now.1
 obtain ⟨o0, o1, o2, o3, o4, o5⟩ := box6 K3.out.now.2.1.op
 go_wp2_with fail
 refine (HCH.out _ K3.out.now.2.2.2).mono ?_
 rintro e w4 ⟨v4, rfl, ho, hf⟩
 obtain ⟨a4, c4, rfl⟩ := ho.shape
 have K4 := zI (Kp.and (Kp.ns ho.ns) (K3.out.later hf))
 clear ho hf x0 x1 x2 x3 x4 o0 o1 o2 o3 o4 o5
 obtain ⟨x0, x1, x2, x3, x4⟩ := box5 K4.out.now.2.1
 obtain ⟨o0, o1, o2, o3, o4, o5⟩ := box6 K4.out.now.2.2.1.op
 obtain ⟨ks, hks⟩ : ∃ ks, ks = kids l p := ⟨_, rfl⟩
 rw [← hks] at K4 ⊢
 have HKS := zI hks
 obtain ⟨kn, hkn⟩ : ∃ kn, kn = ks.length := ⟨_, rfl⟩
 rw [← hkn] at K4 ⊢
 have HKN := zI hkn
 have hkb : kn ≤ 512 := by rw [hkn, hks]; exact Nat.le_trans (List.length_filter_le _ _) HT.out.most
 have hsp : Sp ks := by rw [hks]; exact fun x hx => (tr_few HT.out).2 x (List.mem_filter.1 hx).1
 have HSP := zI hsp
 have HW4 := zI K4.out.now.2.2.1.sz
 clear hks hkn hsp x0 x1 x2 x3 x4
 have H0 : Hid (SwM l ks ow w w4 (.slice ao n cap) 0 (.slice ao n cap) (.slice none 0 0) w4) := ⟨by rw [List.take_zero]; exact Own.nil _ _, Fp.refl _ _, by rw [List.take_zero, cur_nil]; exact K4.out.now.2.2.2.2, fun q hq => by
  have h1 := HVV.out.blk (HNN.out ▸ HT.out.tree.pos) q hq
  exact ⟨.inl ⟨h1, hq⟩, Nat.lt_of_lt_of_le h1 K4.out.now.2.2.2.1.size, fun e => by cases e⟩⟩
 go_wp2_with fail
 clear o0 o1 o2 o3 o4 o5
 go_loopw [0, 10, 11] (fun lv nv i wr => ∃ j : Nat, j ≤ kn ∧ i = .int .i64 j ∧ Hid (SwM l ks ow w w4 (.slice ao n cap) j lv nv wr)) (fun _ _ i _ => kn - (RowKit.intOf i).toNat)
 case atStart => exact ⟨0, Nat.zero_le _, rfl, H0⟩
 clear H0
 obtain ⟨j, hj, rfl, hR⟩ := hrel
 rename_i wr _
 have HK := zI (K4.out.later hR.out.fp)
 obtain ⟨o0, o1, o2, o3, o4, o5⟩ := box6 HK.out.now.2.2.1.op
 obtain ⟨nao, ncap, rfl⟩ := hR.out.own.shape
 obtain ⟨la, lcp, rfl⟩ := hR.out.ns.shape
 by_cases hlt : j < kn
 ·have hkl : j < ks.length := by rw [← HKN.out]; exact hlt
  obtain ⟨g, o, cap', e, _, _, _, hcell⟩ := K4.out.now.1.at (by omega)
  injection e with e1 e2 e3
  subst e1 e3
  clear e2
  have hnd4 := hcell j hkl
  have hnd := hnd4.keep hR.out.fp id
  have hxs := HSP.out _ (List.getElem_mem hkl)
  have htk : ks.take (j + 1) = ks.take j ++ [ks[j]] := List.take_succ_eq_append_getElem hkl
  have hnl : (((ks.take j).filter (fun c => c.own == ow)).map (fun n => last n.path)).length ≤ 512 := by
   rw [List.length_map]
   exact Nat.le_trans (Nat.le_trans (List.length_filter_le _ _) (by rw [List.length_take]; omega)) hkb
  generalize ks[j] = x at *
  have hla := fun w => rLast_g x.path w (sz_of hxs (by omega))
  have HLA := zI hla
  have HND := zI hnd
  have HND4 := zI hnd4
  have HTK := zI htk
  have HNL := zI hnl
  have HL := zI hlt
  have q3 : ((j : Int) < (kn : Int)) = True := eq_true (by omega)
  have q4 : (j < kn) = True := eq_true hlt
  have c4' := hnd.c4
  clear hla hnd hnd4 htk hcell hxs hkl hlt
  have hsc : Sp (Pm.cur l (ks.take j) ow) := fun x hx => (tr_few HT.out).2 x (List.mem_filter.1 hx).1
  have hlc : (Pm.cur l (ks.take j) ow).length ≤ 9000 := Nat.le_trans (List.length_filter_le _ _) (by have := HT.out.most; omega)
  have hwo := fun w' hv => rWithout_c (.slice la (Pm.cur l (ks.take j) ow).length lcp) (Pm.cur l (ks.take j) ow) x.path w' hv hsc hlc
  have HR := hR
  obtain ⟨ps, hps⟩ : ∃ ps, ps = (((ks.take j).filter (fun c => c.own == ow)).map (fun n => last n.path)) := ⟨_, rfl⟩
  rw [← hps] at hnl HR hR ⊢
  have HPS := zI hps
  obtain ⟨cn, hcn⟩ : ∃ cn, cn = (Pm.cur l (ks.take j) ow).length := ⟨_, rfl⟩
  rw [← hcn] at hwo HR hR ⊢
  have HWO := zI hwo
  clear hsc hlc hwo hcn hps hnl
  have hs3 : (wr.drew).cell? ⟨g, o + j * 5 + 4, none⟩ = some (.int .i64 x.own) ∧ (wr.drew).cell? ⟨w.heap.size, 4, none⟩ = some (.int .i64 ow) :=
   ⟨(Fp.refl Non wr).drew.cell c4' id, (Fp.refl Non wr).drew.cell o4 id⟩
  have HS3 := zI hs3
  have HD := zI ((Fp.refl Non wr).drew)
  clear hs3 c4'
  by_cases how : x.own = ow
  ·have qo1 : (x.own == ow) = true := beq_iff_eq.2 how
   have qo2 : (x.own = ow) = True := eq_true how
   have HOW := zI how
   clear how
   go_wp2_with fail
   refine wp_region_held_drew (S := (fun w' => w'.cell? ⟨g, o + j * 5 + 4, none⟩ = some (.int .i64 x.own) ∧ w'.cell? ⟨w.heap.size, 4, none⟩ = some (.int .i64 ow))) (by kernel_rfl) ?_ (fun hH => ?_)
   ·exact HS3.out
   refine tk 0 hH ?_
   refine tk 1 hH ?_
   refine tk 2 hH ?_
   refine tk 3 hH ?_
   refine tk 4 hH ?_
   refine tk 5 hH ?_
   refine tk 6 hH ?_
   refine tk 7 hH ?_
   refine dn ?_
   clear o0 o1 o2 o3 o4 o5
   have c0 := (HND.out.keep HD.out id).c0
   unfold strV at c0
   go_wp2_with fail
   refine (HLA.out _).mono ?_
   rintro e w6 ⟨rfl, g6⟩
   have G6 := zI (HD.out.then g6.fp)
   have F6 := zI (hR.out.fp.then (HD.out.then g6.fp))
   have hown6 : Own w4.heap.size w6 (.slice nao ps.length ncap) ps := by
    have := hR.out.own.grown' G6.out
    rw [← HPS.out] at this; exact this
   have hap := app_name2 w6 w4.heap.size _ ps (last x.path) TSs hown6 (by have := HNL.out; rw [← HPS.out] at this; omega) F6.out.size
   have HAP := zI hap
   have HOB := zI (fun k hk => (hown6.1.lt k hk))
   clear g6 hown6 hap c0
   go_wp2_with (at_builtin; go_must (refine wpList_app rfl _ _ _ _ rfl _ _ rfl rfl _ HAP.out ?_))
   intro v7 w7 hR7
   have F7 := zI (F6.out.trans hR7.fp (fun k hk => .inr (HOB.out k hk).1))
   have hns7 := (HR.out.ns.non G6.out).keep hR7.fp (fun q hq e => (HR.out.blk q hq).2.2 e)
   have HO7 := zI hR7.own
   have c0 := (HND4.out.keep F7.out id).c0
   unfold strV at c0
   clear HAP
   go_wp2_with fail
   refine (HWO.out _ hns7).mono ?_
   rintro e w8 ⟨v8, rfl, ho8, hf8⟩
   have hM : Hid (SwM l ks ow w w4 (.slice ao n cap) (j + 1) v8 v7 w8) := by
    refine ⟨?_, F7.out.then hf8, ?_, fun q hq => ⟨.inr ?_, (ho8.lt q hq).2, fun e => ?_⟩⟩
    ·rw [HTK.out, names_snoc, if_pos HOW.out, List.map_append, ← HPS.out]; exact HO7.out.grown' hf8
    ·rw [HTK.out, cur_snoc, if_pos HOW.out]; exact ho8.ns
    ·exact Nat.le_trans F7.out.size (ho8.lt q hq).1
    have h1 := (HO7.out.1.lt q e).2; have h2 := (ho8.lt q hq).1; omega
   have hj1 := HL.out
   clear hns7 ho8 hf8 c0 hR7
   go_wp2
   go_roundw
   case rel => exact ⟨j + 1, by omega, by go_num, hM⟩
   case measure => simp [RowKit.intOf]; omega
  have qo1 : (x.own == ow) = false := beq_eq_false_iff_ne.2 how
  have qo2 : (x.own = ow) = False := eq_false how
  have HOW := zI how
  clear how
  go_wp2_with fail
  refine wp_region_held_drew (S := (fun w' => w'.cell? ⟨g, o + j * 5 + 4, none⟩ = some (.int .i64 x.own) ∧ w'.cell? ⟨w.heap.size, 4, none⟩ = some (.int .i64 ow))) (by kernel_rfl) ?_ (fun hH => ?_)
  ·exact HS3.out
  refine tk 0 hH ?_
  refine tk 1 hH ?_
  refine tk 2 hH ?_
  refine tk 3 hH ?_
  refine tk 4 hH ?_
  refine tk 5 hH ?_
  refine tk 6 hH ?_
  refine tk 7 hH ?_
  refine dn ?_
  clear o0 o1 o2 o3 o4 o5
  have hM : Hid (SwM l ks ow w w4 (.slice ao n cap) (j + 1) (.slice la cn lcp) (.slice nao ps.length ncap) wr.drew) := by
   refine ⟨?_, hR.out.fp.then HD.out, ?_, fun q hq => ⟨(HR.out.blk q hq).1, Nat.lt_of_lt_of_le (HR.out.blk q hq).2.1 HD.out.size, (HR.out.blk q hq).2.2⟩⟩
   ·rw [HTK.out, names_snoc, if_neg HOW.out, List.append_nil, ← HPS.out]; have := HR.out.own.grown' HD.out; rw [← HPS.out] at this; exact this
   rw [HTK.out, cur_snoc, if_neg HOW.out]; exact HR.out.ns.non HD.out
  have hj1 := HL.out
  go_wp2
  go_roundw
  case rel => exact ⟨j + 1, by omega, by go_num, hM⟩
  case measure => simp [RowKit.intOf]; omega
 have hke : j = kn := by omega
 subst hke
 have q3 : ((j : Int) < (j : Int)) = False := eq_false (by omega)
 have hown := hR.out.own
 have hns := hR.out.ns
 rw [List.take_of_length_le (by rw [← HKN.out]; exact Nat.le_refl _)] at hown hns ⊢
 have HR := hR
 obtain ⟨nl, hnl⟩ : ∃ nl, nl = ((ks.filter (fun c => c.own == ow)).map (fun n => last n.path)).length := ⟨_, rfl⟩
 obtain ⟨cn, hcn⟩ : ∃ cn, cn = (Pm.cur l ks ow).length := ⟨_, rfl⟩
 rw [← hnl] at hown ⊢
 rw [← hcn] at hns ⊢
 have HOW := zI hown
 have HNS := zI hns
 have HBK : Hid (∀ q, (Value.slice la 0 0).ownBlock = some q → (q < w.heap.size ∧ (Value.slice ao n cap).ownBlock = some q) ∨ w4.heap.size ≤ q) := fun q hq => (hR.out.blk q (by rw [own_blk _ _ _ 0 0]; exact hq)).1
 clear hlt hj hown hns hnl hcn o0 o1 o2 o3 o4 o5
 have hbr := HK.out.now.2.2.1
 have hfw := HK.out.now.2.2.2.1
 obtain ⟨r0, r1, r2, r3, r4⟩ := hbr.r
 have z0 := hbr.fz 0; have z1 := hbr.fz 1; have z2 := hbr.fz 2; have z3 := hbr.fz 3; have z4 := hbr.fz 4
 have HE := zI (yI hbr.res hfw)
 clear hbr hfw
 go_wp2
 have hw9 := set5 HE.out.1 (.int .i64 0) (.string ⟨#[]⟩) (.string ⟨#[]⟩) (.int .i64 0) (.slice nao nl ncap)
 have hfz := fp5 (S := Non) HE.out.2 (b := w.heap.size + 1) (.inr (by omega)) (.int .i64 0) (.string ⟨#[]⟩) (.string ⟨#[]⟩) (.int .i64 0) (.slice nao nl ncap)
 have hfk := fp5k HE.out.1 (.int .i64 0) (.string ⟨#[]⟩) (.string ⟨#[]⟩) (.int .i64 0) (.slice nao nl ncap)
 generalize (((((World.setCell _ _ _).setCell _ _).setCell _ _).setCell _ _).setCell _ _) = wz at *
 obtain ⟨s0, s1, s2, s3, s4⟩ := b5 hw9
 exact bodyPost_ret (v := .tuple #[.slice la cn lcp, .agg #[.int .i64 0, .string ⟨#[]⟩, .string ⟨#[]⟩, .int .i64 0, .slice nao nl ncap]]) (by simp [results, Tryz.results82, go_sem, s0, s1, s2, s3, s4]) rfl (⟨⟨.slice la cn lcp, .slice nao nl ncap, rfl, by (show Ns wz _ (l.filter (fun n => !swept ⟨7, p, d, vv, ow, tt⟩ n))); rw [← cur_fin HT.out.asc ⟨7, p, d, vv, ow, tt⟩]; have h := HNS.out; rw [HKS.out] at h; exact h.keep hfk (fun k hk e => by have e : k = w.heap.size + 1 := e; have h1 := HBK.out k (by rw [own_blk _ _ _ cn lcp]; exact hk); have h2 := HW4.out; omega), by (show Own w.heap.size wz _ ((l.filter (swept ⟨7, p, d, vv, ow, tt⟩)).map (fun n => last n.path))); rw [← names_fin, ← HKS.out]; exact Own.low ⟨hfk.owns HOW.out.1 (fun k hk e => by have e : k = w.heap.size + 1 := e; have h1 := (HOW.out.1.lt k hk).1; have h2 := HW4.out; omega), HOW.out.2⟩ (by have h2 := HW4.out; omega), fun k hk => (HBK.out k (by rw [own_blk _ _ _ cn lcp]; exact hk)).imp (fun h => h.2) (fun h => by have h2 := HW4.out; omega)⟩, hfz⟩)
end Go.Proofs.YtphoglepiegeiaaGreatDoor
