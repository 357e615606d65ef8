/- A text of this proof. -/
import Derived.Test.YtphoglepiegeiaaGreatDoorZCBA
import Derived.Test.YtphoglepiegeiaaGreatDoorZCBB
import Derived.Test.YtphoglepiegeiaaGreatDoorZCC
import Derived.Test.YtphoglepiegeiaaGreatDoorZCT
import Derived.Test.YtphoglepiegeiaaGreatDoorZCU
import Derived.Test.YtphoglepiegeiaaGreatDoorZCV
import Derived.Test.YtphoglepiegeiaaGreatDoorZCW
import Derived.Test.YtphoglepiegeiaaGreatDoorZCX
import Derived.Test.YtphoglepiegeiaaGreatDoorZCY
set_option linter.unusedSimpArgs false
set_option linter.unusedVariables false
namespace Go.Proofs.YtphoglepiegeiaaGreatDoor
set_option maxRecDepth 20000
open Go.RowKit Pm
set_option maxHeartbeats 4000000 in
theorem rApply_r (v : Value) (l : List Nd) (kk : Int) (p d : Bs) (vv ow : Int) (tt : Bool) (w : World) (hv : Ns w v l) (hs : Sp l) (hp : p.length ≤ 1000000) (h : right l = false) :
  Calls Tryz.prog 82 #[v, .agg #[.int .i64 kk, .string (B p), .string (B d), .int .i64 vv, .int .i64 ow, .bool tt]] w (ApB w v [] (.bad 1)) := by
 obtain ⟨ao, cap, rfl⟩ := hv.shape
 have hb0 := Bx.made w kk p d vv ow tt
 have hf0 : Fp Non w ((w.alloc (.cells #[.int .i64 kk, .string (B p), .string (B d), .int .i64 vv, .int .i64 ow, .bool tt] TO_)).alloc (.cells #[.int .i64 0, .string ⟨#[]⟩, .string ⟨#[]⟩, .int .i64 0, .slice none 0 0] TR)) := (fp_alloc w _).then (fp_alloc _ _)
 have HF0 := zI (Kp.and (fun W' f => hb0.non f : Kp (Bx w kk p d vv ow tt) ((w.alloc (.cells #[.int .i64 kk, .string (B p), .string (B d), .int .i64 vv, .int .i64 ow, .bool tt] TO_)).alloc (.cells #[.int .i64 0, .string ⟨#[]⟩, .string ⟨#[]⟩, .int .i64 0, .slice none 0 0] TR))) (Kp.and (Kp.fp hf0) (Kp.ns (hv.non hf0))))
 have hrr := fun w' hv => rRightN_g (.slice ao l.length cap) l w' hv hs
 have hmy := fun w' => rMay_c ⟨kk, p, d, vv, ow, tt⟩ w' hp
 unfold opV strV at hmy
 simp only at hmy
 rw [h] at hrr
 obtain ⟨n, hnn⟩ : ∃ n, n = l.length := ⟨_, rfl⟩
 rw [← hnn] at HF0 hrr ⊢
 have HRR := zI hrr
 clear hb0 hf0 hrr hmy hv hs hp h hnn
 go_enter Tryz.func82, Tryz.ntmps82
 go_wp2_with fail
 refine (HRR.out _ HF0.out.now.2.2).mono ?_
 rintro e w1 ⟨rfl, hf⟩
 have K1 := zI (HF0.out.later hf)
 clear hf
 have hbr := K1.out.now.1
 have hfw := K1.out.now.2.1
 obtain ⟨r0, r1, r2, r3, r4⟩ := hbr.r
 have z0 := hbr.fz 0; have z1 := hbr.fz 1; have z2 := hbr.fz 2; have z3 := hbr.fz 3; have z4 := hbr.fz 4
 have HE := zI (yI hbr.res hfw)
 clear hbr hfw
 go_wp2
 have hw9 := set5 HE.out.1 (.int .i64 1) (.string ⟨#[]⟩) (.string ⟨#[]⟩) (.int .i64 0) (.slice none 0 0)
 have hfz := fp5 (S := Non) HE.out.2 (b := w.heap.size + 1) (.inr (by omega)) (.int .i64 1) (.string ⟨#[]⟩) (.string ⟨#[]⟩) (.int .i64 0) (.slice none 0 0)
 have hfk := fp5k HE.out.1 (.int .i64 1) (.string ⟨#[]⟩) (.string ⟨#[]⟩) (.int .i64 0) (.slice none 0 0)
 generalize (((((World.setCell _ _ _).setCell _ _).setCell _ _).setCell _ _).setCell _ _) = wz at *
 obtain ⟨s0, s1, s2, s3, s4⟩ := b5 hw9
 exact bodyPost_ret (v := .tuple #[.slice none 0 0, .agg #[.int .i64 1, .string ⟨#[]⟩, .string ⟨#[]⟩, .int .i64 0, .slice none 0 0]]) (by simp [results, Tryz.results82, go_sem, s0, s1, s2, s3, s4]) rfl (res_badN hfz)
set_option maxHeartbeats 4000000 in
theorem rApply_m (v : Value) (l : List Nd) (kk : Int) (p d : Bs) (vv ow : Int) (tt : Bool) (w : World) (hv : Ns w v l) (hs : Sp l) (hp : p.length ≤ 1000000) (h : right l = true) (hm : may ⟨kk, p, d, vv, ow, tt⟩ = false) :
  Calls Tryz.prog 82 #[v, .agg #[.int .i64 kk, .string (B p), .string (B d), .int .i64 vv, .int .i64 ow, .bool tt]] w (ApB w v [] (.bad 1)) := by
 obtain ⟨ao, cap, rfl⟩ := hv.shape
 have hb0 := Bx.made w kk p d vv ow tt
 have hf0 : Fp Non w ((w.alloc (.cells #[.int .i64 kk, .string (B p), .string (B d), .int .i64 vv, .int .i64 ow, .bool tt] TO_)).alloc (.cells #[.int .i64 0, .string ⟨#[]⟩, .string ⟨#[]⟩, .int .i64 0, .slice none 0 0] TR)) := (fp_alloc w _).then (fp_alloc _ _)
 have HF0 := zI (Kp.and (fun W' f => hb0.non f : Kp (Bx w kk p d vv ow tt) ((w.alloc (.cells #[.int .i64 kk, .string (B p), .string (B d), .int .i64 vv, .int .i64 ow, .bool tt] TO_)).alloc (.cells #[.int .i64 0, .string ⟨#[]⟩, .string ⟨#[]⟩, .int .i64 0, .slice none 0 0] TR))) (Kp.and (Kp.fp hf0) (Kp.ns (hv.non hf0))))
 have hrr := fun w' hv => rRightN_g (.slice ao l.length cap) l w' hv hs
 have hmy := fun w' => rMay_c ⟨kk, p, d, vv, ow, tt⟩ w' hp
 unfold opV strV at hmy
 simp only at hmy
 rw [h] at hrr
 rw [hm] at hmy
 obtain ⟨n, hnn⟩ : ∃ n, n = l.length := ⟨_, rfl⟩
 rw [← hnn] at HF0 hrr ⊢
 have HRR := zI hrr
 have HMY := zI hmy
 clear hb0 hf0 hrr hmy hv hs hp h hnn hm
 go_enter Tryz.func82, Tryz.ntmps82
 go_wp2_with fail
 refine (HRR.out _ HF0.out.now.2.2).mono ?_
 rintro e w1 ⟨rfl, hf⟩
 have K1 := zI (HF0.out.later hf)
 clear hf
 obtain ⟨o0, o1, o2, o3, o4, o5⟩ := box6 K1.out.now.1.op
 go_wp2_with fail
 refine (HMY.out _).mono ?_
 rintro e w2 ⟨rfl, hf⟩
 have K2 := zI (K1.out.later hf)
 clear hf o0 o1 o2 o3 o4 o5
 have hbr := K2.out.now.1
 have hfw := K2.out.now.2.1
 obtain ⟨r0, r1, r2, r3, r4⟩ := hbr.r
 have z0 := hbr.fz 0; have z1 := hbr.fz 1; have z2 := hbr.fz 2; have z3 := hbr.fz 3; have z4 := hbr.fz 4
 have HE := zI (yI hbr.res hfw)
 clear hbr hfw
 go_wp2
 have hw9 := set5 HE.out.1 (.int .i64 1) (.string ⟨#[]⟩) (.string ⟨#[]⟩) (.int .i64 0) (.slice none 0 0)
 have hfz := fp5 (S := Non) HE.out.2 (b := w.heap.size + 1) (.inr (by omega)) (.int .i64 1) (.string ⟨#[]⟩) (.string ⟨#[]⟩) (.int .i64 0) (.slice none 0 0)
 have hfk := fp5k HE.out.1 (.int .i64 1) (.string ⟨#[]⟩) (.string ⟨#[]⟩) (.int .i64 0) (.slice none 0 0)
 generalize (((((World.setCell _ _ _).setCell _ _).setCell _ _).setCell _ _).setCell _ _) = wz at *
 obtain ⟨s0, s1, s2, s3, s4⟩ := b5 hw9
 exact bodyPost_ret (v := .tuple #[.slice none 0 0, .agg #[.int .i64 1, .string ⟨#[]⟩, .string ⟨#[]⟩, .int .i64 0, .slice none 0 0]]) (by simp [results, Tryz.results82, go_sem, s0, s1, s2, s3, s4]) rfl (res_badN hfz)
set_option maxHeartbeats 4000000 in
theorem rApply_1 (v : Value) (l : List Nd) (p d : Bs) (vv ow : Int) (tt : Bool) (w : World) (hv : Ns w v l) (hT : Tr l) (hm : may ⟨1, p, d, vv, ow, tt⟩ = true) :
  Calls Tryz.prog 82 #[v, .agg #[.int .i64 1, .string (B p), .string (B d), .int .i64 vv, .int .i64 ow, .bool tt]] w (ApB w v (create l ⟨1, p, d, vv, ow, tt⟩).1 (create l ⟨1, p, d, vv, ow, tt⟩).2) := by
 have hp : p.length ≤ 1000000 := may_len2 hm
 have hs := (tr_few hT).2
 have h := right_true hT.tree
 obtain ⟨ao, cap, rfl⟩ := hv.shape
 have hb0 := Bx.made w 1 p d vv ow tt
 have hf0 : Fp Non w ((w.alloc (.cells #[.int .i64 1, .string (B p), .string (B d), .int .i64 vv, .int .i64 ow, .bool tt] TO_)).alloc (.cells #[.int .i64 0, .string ⟨#[]⟩, .string ⟨#[]⟩, .int .i64 0, .slice none 0 0] TR)) := (fp_alloc w _).then (fp_alloc _ _)
 have HF0 := zI (Kp.and (fun W' f => hb0.non f : Kp (Bx w 1 p d vv ow tt) ((w.alloc (.cells #[.int .i64 1, .string (B p), .string (B d), .int .i64 vv, .int .i64 ow, .bool tt] TO_)).alloc (.cells #[.int .i64 0, .string ⟨#[]⟩, .string ⟨#[]⟩, .int .i64 0, .slice none 0 0] TR))) (Kp.and (Kp.fp hf0) (Kp.ns (hv.non hf0))))
 have hrr := fun w' hv => rRightN_g (.slice ao l.length cap) l w' hv hs
 have hmy := fun w' => rMay_c ⟨1, p, d, vv, ow, tt⟩ w' hp
 unfold opV strV at hmy
 simp only at hmy
 rw [h] at hrr
 rw [hm] at hmy
 have hcr := fun w' hv => rCreate_c (.slice ao l.length cap) l ⟨1, p, d, vv, ow, tt⟩ w' hv hT hm rfl
 unfold opV strV at hcr
 simp only at hcr
 obtain ⟨L, hL⟩ : ∃ L, (create l ⟨1, p, d, vv, ow, tt⟩).1 = L := ⟨_, rfl⟩
 obtain ⟨R, hR⟩ : ∃ R, (create l ⟨1, p, d, vv, ow, tt⟩).2 = R := ⟨_, rfl⟩
 rw [hL, hR] at hcr ⊢
 obtain ⟨re, rp, rd, rv, rn⟩ := R
 obtain ⟨n, hnn⟩ : ∃ n, n = l.length := ⟨_, rfl⟩
 rw [← hnn] at HF0 hrr hcr ⊢
 have HRR := zI hrr
 have HMY := zI hmy
 have HCR := zI hcr
 have HVV := zI hv
 have HTP := zI hT.tree.pos
 clear hb0 hf0 hrr hmy hv hs hp h hnn hm hcr hL hR
 go_enter Tryz.func82, Tryz.ntmps82
 go_wp2_with fail
 refine (HRR.out _ HF0.out.now.2.2).mono ?_
 rintro e w1 ⟨rfl, hf⟩
 have K1 := zI (HF0.out.later hf)
 clear hf
 obtain ⟨o0, o1, o2, o3, o4, o5⟩ := box6 K1.out.now.1.op
 go_wp2_with fail
 refine (HMY.out _).mono ?_
 rintro e w2 ⟨rfl, hf⟩
 have K2 := zI (K1.out.later hf)
 clear hf o0 o1 o2 o3 o4 o5
 obtain ⟨o0, o1, o2, o3, o4, o5⟩ := box6 K2.out.now.1.op
 go_wp2_with fail
 refine (HCR.out _ K2.out.now.2.2).mono ?_
 rintro e w3 hA
 obtain ⟨v3, n3, rfl, hn3, ho3, hb3⟩ := hA.ex
 have HB3 : Hid (∀ k, v3.ownBlock = some k → k ≠ w.heap.size + 1) := fun k hk e => by
  rcases hb3 k hk with h | h
  ·rw [own_blk _ _ _ l.length cap] at h
   have := HVV.out.blk HTP.out k h; omega
  have := K2.out.now.1.sz; omega
 obtain ⟨na, nc, rfl⟩ := ho3.shape
 obtain ⟨nl, hnl⟩ : ∃ nl, nl = rn.length := ⟨_, rfl⟩
 simp only at ho3 ⊢
 rw [← hnl] at ho3 ⊢
 have HO := zI (yI hn3 (yI ho3 K2.out.now.1.sz))
 have HFA := zI (fun k hk => (hb3 k hk).imp id (fun h => (by have := K2.out.now.1.sz; omega : w.heap.size ≤ k)))
 have K3 := zI (K2.out.later hA.fp)
 unfold strV
 clear hA hn3 ho3 hnl hb3 o0 o1 o2 o3 o4 o5
 have hbr := K3.out.now.1
 have hfw := K3.out.now.2.1
 obtain ⟨r0, r1, r2, r3, r4⟩ := hbr.r
 have z0 := hbr.fz 0; have z1 := hbr.fz 1; have z2 := hbr.fz 2; have z3 := hbr.fz 3; have z4 := hbr.fz 4
 have HE := zI (yI hbr.res hfw)
 clear hbr hfw
 go_wp2
 have hw9 := set5 HE.out.1 (.int .i64 re) (.string (B rp)) (.string (B rd)) (.int .i64 rv) (.slice na nl nc)
 have hfz := fp5 (S := Non) HE.out.2 (b := w.heap.size + 1) (.inr (by omega)) (.int .i64 re) (.string (B rp)) (.string (B rd)) (.int .i64 rv) (.slice na nl nc)
 have hfk := fp5k HE.out.1 (.int .i64 re) (.string (B rp)) (.string (B rd)) (.int .i64 rv) (.slice na nl nc)
 generalize (((((World.setCell _ _ _).setCell _ _).setCell _ _).setCell _ _).setCell _ _) = wz at *
 obtain ⟨s0, s1, s2, s3, s4⟩ := b5 hw9
 exact bodyPost_ret (v := .tuple #[v3, .agg #[.int .i64 re, .string (B rp), .string (B rd), .int .i64 rv, .slice na nl nc]]) (by simp [results, Tryz.results82, go_sem, s0, s1, s2, s3, s4]) rfl (⟨⟨v3, .slice na nl nc, rfl, HO.out.1.keep hfk (fun k hk e => HB3.out k hk e), Own.low ⟨hfk.owns HO.out.2.1.1 (fun k hk e => by have e : k = w.heap.size + 1 := e; have h1 := (HO.out.2.1.1.lt k hk).1; have h2 := HO.out.2.2; omega), HO.out.2.1.2⟩ (by have h2 := HO.out.2.2; omega), fun k hk => HFA.out k hk⟩, hfz⟩)
theorem rApplyB_c (v : Value) (l : List Nd) (o : Opn) (w : World) (hv : Ns w v l) (hs : Sp l) (hp : o.path.length ≤ 1000000) :
  Calls Tryz.prog 82 #[v, opV o] w (ApB w v (apply l o).1 (apply l o).2) := by
 cases hr : right l with
 | false =>
  rw [apply_no (fun h => by rw [hr] at h; cases h.1)]
  obtain ⟨kk, p, d, vv, ow, tt⟩ := o
  exact rApply_r v l kk p d vv ow tt w hv hs hp hr
 | true => ?_
 have hT := ((right_iff l).1 hr).tr
 cases hm : may o with
 | false =>
  rw [apply_no (fun h => by rw [hm] at h; cases h.2)]
  obtain ⟨kk, p, d, vv, ow, tt⟩ := o
  exact rApply_m v l kk p d vv ow tt w hv hs hp hr hm
 | true => ?_
 rw [apply_yes hT hm]
 have hk := may_kind hm
 obtain ⟨kk, p, d, vv, ow, tt⟩ := o
 simp only at hk
 rcases hk with rfl | rfl | rfl | rfl | rfl | rfl | rfl
 ·have e : perform l ⟨1, p, d, vv, ow, tt⟩ = create l ⟨1, p, d, vv, ow, tt⟩ := by unfold perform; rw [if_pos rfl]
  rw [e]; exact rApply_1 v l p d vv ow tt w hv hT hm
 ·exact rApply_2 v l p d vv ow tt w hv hT hm
 ·exact rApply_3 v l p d vv ow tt w hv hT hm
 ·exact rApply_4 v l p d vv ow tt w hv hT hm
 ·exact rApply_5 v l p d vv ow tt w hv hT hm
 ·exact rApply_6 v l p d vv ow tt w hv hT hm
 exact rApply_7 v l p d vv ow tt w hv hT hm
set_option maxHeartbeats 16000000 in
theorem rApplyM_c (v lv : Value) (t : List Nd) (l : List Opn) (w : World) (hv : Ns w v t) (ht : Sp t) (hl : Ops w lv l) (hls : OSp l) (hln : l.length ≤ 1000000) :
  Calls Tryz.prog 41 #[v, lv] w (MApR t v l w) := by
 have hnr := fun W (f : Fp Non w W) => rRightN_g v t W (hv.non f) ht
 have hmm := fun W (f : Fp Non w W) => rMayL_c lv l W (hl.non f) hls hln
 obtain ⟨ao, cap, rfl⟩ := hv.shape
 obtain ⟨al, cl, rfl⟩ := hl.shape
 obtain ⟨nt, hnt⟩ : ∃ n, n = t.length := ⟨_, rfl⟩
 obtain ⟨n, hn⟩ : ∃ n, n = l.length := ⟨_, rfl⟩
 obtain ⟨br, hbr⟩ : ∃ b, right t = b := ⟨_, rfl⟩
 obtain ⟨bm, hbm⟩ : ∃ b, mayL l = b := ⟨_, rfl⟩
 rw [hbr, ← hnt] at hnr
 rw [hbm, ← hn] at hmm
 have HB := zI (yI hbr hbm)
 have HRM := zI (yI hnr hmm)
 have HN := zI (yI hnt (yI hn (yI hv (yI hl hls))))
 rw [← hnt, ← hn]
 have f0 := fp_alloc w (.cells #[.int .i64 0, .int .i64 0, .slice none 0 0] TDN)
 have r0 := heap_alloc_new w (.cells #[.int .i64 0, .int .i64 0, .slice none 0 0] TDN)
 have K0 := zI (Kp.and (Kp.fp f0) (Kp.row r0))
 clear hv ht hl hls hln hnr hmm hbr hbm hnt hn f0 r0
 go_enter Tryz.func41, Tryz.ntmps41
 go_wp2_with fail
 refine (HRM.out.1 _ K0.out.now.1).mono ?_
 rintro e w1 ⟨rfl, hf⟩
 have K1 := zI (K0.out.later hf)
 clear hf K0
 obtain ⟨d0, d1, d2⟩ := box3 K1.out.now.2
 have z0 := frozen_at K1.out.now.2 0; have z1 := frozen_at K1.out.now.2 1; have z2 := frozen_at K1.out.now.2 2
 cases br with
 | false =>
  have hset := heap_setCell_same _ w.heap.size 2 _ TDN (.slice none 0 0) (heap_setCell_same _ w.heap.size 1 _ TDN (.int .i64 0) (heap_setCell_same w1 w.heap.size 0 _ TDN (.int .i64 1) K1.out.now.2))
  have hfs : Fp (fun j => j = w.heap.size) w1 (((w1.setCell ⟨w.heap.size, 0, none⟩ (.int .i64 1)).setCell ⟨w.heap.size, 1, none⟩ (.int .i64 0)).setCell ⟨w.heap.size, 2, none⟩ (.slice none 0 0)) := (((Fp.refl (fun j => j = w.heap.size) w1).setCell (p := ⟨w.heap.size, 0, none⟩) (.inl rfl) _).setCell (p := ⟨w.heap.size, 1, none⟩) (.inl rfl) _).setCell (p := ⟨w.heap.size, 2, none⟩) (.inl rfl) _
  have HJS := zI (yI hset (K1.out.now.1.trans hfs (fun j hj => .inr (by have hj : j = w.heap.size := hj; omega))))
  clear hset hfs
  go_wp2_with fail
  clear d0 d1 d2 z0 z1 z2
  generalize (((World.setCell w1 _ _).setCell _ _).setCell _ _) = wz at *
  obtain ⟨t0, t1, t2⟩ := box3 HJS.out.1
  refine bodyPost_ret (v := .tuple #[.slice none 0 0, .agg #[.int .i64 1, .int .i64 0, .slice none 0 0]]) (by simp [results, Tryz.results41, go_sem, t0, t1, t2]) rfl ?_
  exact ⟨.inl ⟨fun h => by have := HB.out; rw [this.1, this.2] at h; simp at h, rfl⟩, HJS.out.2⟩
 | true => ?_
 go_wp2_with fail
 refine (HRM.out.2 _ K1.out.now.1).mono ?_
 rintro e w2 ⟨rfl, hf⟩
 have K2 := zI (K1.out.later hf)
 clear hf K1 d0 d1 d2 z0 z1 z2
 obtain ⟨d0, d1, d2⟩ := box3 K2.out.now.2
 have z0 := frozen_at K2.out.now.2 0; have z1 := frozen_at K2.out.now.2 1; have z2 := frozen_at K2.out.now.2 2
 cases bm with
 | false =>
  have hset := heap_setCell_same _ w.heap.size 2 _ TDN (.slice none 0 0) (heap_setCell_same _ w.heap.size 1 _ TDN (.int .i64 0) (heap_setCell_same w2 w.heap.size 0 _ TDN (.int .i64 1) K2.out.now.2))
  have hfs : Fp (fun j => j = w.heap.size) w2 (((w2.setCell ⟨w.heap.size, 0, none⟩ (.int .i64 1)).setCell ⟨w.heap.size, 1, none⟩ (.int .i64 0)).setCell ⟨w.heap.size, 2, none⟩ (.slice none 0 0)) := (((Fp.refl (fun j => j = w.heap.size) w2).setCell (p := ⟨w.heap.size, 0, none⟩) (.inl rfl) _).setCell (p := ⟨w.heap.size, 1, none⟩) (.inl rfl) _).setCell (p := ⟨w.heap.size, 2, none⟩) (.inl rfl) _
  have HJS := zI (yI hset (K2.out.now.1.trans hfs (fun j hj => .inr (by have hj : j = w.heap.size := hj; omega))))
  clear hset hfs
  go_wp2_with fail
  clear d0 d1 d2 z0 z1 z2
  generalize (((World.setCell w2 _ _).setCell _ _).setCell _ _) = wz at *
  obtain ⟨t0, t1, t2⟩ := box3 HJS.out.1
  refine bodyPost_ret (v := .tuple #[.slice none 0 0, .agg #[.int .i64 1, .int .i64 0, .slice none 0 0]]) (by simp [results, Tryz.results41, go_sem, t0, t1, t2]) rfl ?_
  exact ⟨.inl ⟨fun h => by have := HB.out; rw [this.1, this.2] at h; simp at h, rfl⟩, HJS.out.2⟩
 | true => ?_
 clear d0 d1 d2 z0 z1 z2
 have hT : Tr t := ((right_iff t).1 HB.out.1).tr
 have hmm := (mayL_iff l).1 HB.out.2
 have hlow : w.heap.size < w2.heap.size := (Array.getElem?_eq_some_iff.1 K2.out.now.2).1
 have HT := zI (yI hT (yI hmm hlow))
 have H0 : Hid (∃ now rs, RunO t l 0 now rs ∧ Ns w2 (.slice ao nt cap) now ∧ Ors w.heap.size w2 (.slice none 0 0) rs ∧ Fp Non w w2 ∧ w2.heap[w.heap.size]? = some (.cells #[.int .i64 0, .int .i64 0, .slice none 0 0] TDN (0, 0)) ∧ (0 < now.length → ∀ j, (Value.slice ao nt cap).ownBlock = some j → (Value.slice none 0 0).ownBlock ≠ some j)) :=
  ⟨t, [], .zero, by rw [HN.out.1]; exact HN.out.2.2.1.non K2.out.now.1, Ors.nil _ _, K2.out.now.1, K2.out.now.2, fun _ j _ e => by simp [Value.ownBlock] at e⟩
 have hnb : n ≤ 8 := by rw [HN.out.2.1]; exact hmm.1.2
 clear hT hmm hlow K2
 go_wp2_with fail
 go_loopw [6, 7, 8] (fun vn vr i wr => ∃ k : Nat, k ≤ n ∧ i = .int .i64 k ∧ Hid (∃ now rs, RunO t l k now rs ∧ Ns wr vn now ∧ Ors w.heap.size wr vr rs ∧ Fp Non w wr ∧ wr.heap[w.heap.size]? = some (.cells #[.int .i64 0, .int .i64 0, .slice none 0 0] TDN (0, 0)) ∧ (0 < now.length → ∀ j, vn.ownBlock = some j → vr.ownBlock ≠ some j))) (fun _ _ i _ => n - (RowKit.intOf i).toNat)
 case atStart => exact ⟨0, Nat.zero_le _, rfl, H0⟩
 clear H0
 obtain ⟨k, hk, rfl, hR⟩ := hrel
 rename_i wr _
 obtain ⟨now, rs, hrun, hns, hors, hF, hD, hfr⟩ := hR.out
 clear hR
 obtain ⟨an6, cn6, hsh⟩ := hns.shape
 obtain ⟨ar9, cr9, hsh9⟩ := hors.shape
 obtain ⟨nn, hnn⟩ : ∃ nn, nn = now.length := ⟨_, rfl⟩
 obtain ⟨nr, hnr⟩ : ∃ nr, nr = rs.length := ⟨_, rfl⟩
 rw [← hnn] at hsh
 rw [← hnr] at hsh9
 subst hsh hsh9
 have HNR := zI (yI hnn hnr)
 clear hnn hnr
 by_cases hlt : k < n
 ·have hkl : k < l.length := by rw [← HN.out.2.1]; exact hlt
  obtain ⟨g, og, cap', e9, hcell⟩ := (HN.out.2.2.2.1.non hF).at (by omega)
  injection e9 with e1 e2 e3
  subst e1 e3
  clear e2
  have hop := hcell k hkl
  have hsp := HN.out.2.2.2.2 _ (List.getElem_mem hkl)
  have hTr := (hrun.tree HT.out.1 HT.out.2.1.2).1
  have hnp : 0 < now.length := hTr.tree.pos
  have hap := fun W (f : Fp Non wr W) => rApplyB_c (.slice an6 nn cn6) now l[k] W (hns.non f) (tr_few hTr).2 hsp
  have hsucc : ∀ x r, apply now l[k] = (x, r) → r.err = 0 → RunO t l (k + 1) x (rs ++ [r]) := fun x r h h0 => .succ hrun hkl h h0
  have hfail : ∀ er, (apply now l[k]).2.err = er → er ≠ 0 → ∃ now rs, RunO t l k now rs ∧ ∃ h : k < l.length, (apply now l[k]).2.err = er ∧ er ≠ 0 := fun er h h0 => ⟨now, rs, hrun, hkl, h, h0⟩
  have hrl : rs.length ≤ 8 := by have := hrun.len; omega
  obtain ⟨x, hx⟩ : ∃ x, l[k] = x := ⟨_, rfl⟩
  rw [hx] at hop hap hsucc hfail
  obtain ⟨nx, hnx⟩ : ∃ nx, (apply now x).1 = nx := ⟨_, rfl⟩
  obtain ⟨rq, hrq⟩ : ∃ rq, (apply now x).2 = rq := ⟨_, rfl⟩
  have hpair : apply now x = (nx, rq) := Prod.ext hnx hrq
  have hs1 := hsucc nx rq hpair
  have hs2 := hfail rq.err (by rw [hrq])
  rw [hnx, hrq] at hap
  obtain ⟨kk, op, od, ov, oo, ot⟩ := x
  have c0 := hop.c0; have c1 := hop.c1; have c2 := hop.c2; have c3 := hop.c3; have c4 := hop.c4; have c5 := hop.c5
  unfold opV strV at hap
  unfold strV at c1 c2
  simp only at c0 c1 c2 c3 c4 c5 hap
  have HAP := zI hap
  have HS := zI (yI hs1 (yI hs2 hrl))
  have HF := zI (yI hF (yI hD (yI hors (hfr hnp))))
  have HL := zI hlt
  have q3 : ((k : Int) < (n : Int)) = True := eq_true (by omega)
  have q4 : (k < n) = True := eq_true hlt
  clear hcell hop hsp hTr hnp hap hsucc hfail hx hnx hrq hpair hs1 hs2 hF hD hfr hors hns hrun hlt hkl hrl
  go_wp2_with fail
  refine (HAP.out _ (Fp.refl _ _)).mono ?_
  rintro e w5 hA
  obtain ⟨v', nv, rfl, hns, hown, hfar⟩ := hA.ex
  have hfp := hA.fp
  obtain ⟨ax, cx, rfl⟩ := hns.shape
  obtain ⟨na, nc, rfl⟩ := hown.shape
  obtain ⟨re, rp, rd, rv, rn⟩ := rq
  simp only at hown
  unfold strV
  simp only
  have hlo5 : w.heap.size ≤ wr.heap.size := HF.out.1.size
  have f0 := fp_alloc w5 (.cells #[.int .i64 re, .string (B rp), .string (B rd), .int .i64 rv, .slice na rn.length nc] TR)
  have r0 := heap_alloc_new w5 (.cells #[.int .i64 re, .string (B rp), .string (B rd), .int .i64 rv, .slice na rn.length nc] TR)
  have hfr6 : 0 < nx.length → ∀ j, (Value.slice ax nx.length cx).ownBlock = some j → (Value.slice ar9 nr cr9).ownBlock ≠ some j := fun h0 j hj e => by
   rcases hfar j hj with h | h
   ·exact HF.out.2.2.2 j h e
   have h2 := (HF.out.2.2.1.lt j e).2
   omega
  have HFR6 := zI hfr6
  have H6 := zI (yI ((HF.out.1.then hfp).then f0) (yI (f0.heap (hfp.heap HF.out.2.1 id) id) (yI (hns.non f0) (yI ((HF.out.2.2.1.non hfp).non f0) (yI ((hown.low hlo5).grown' f0) r0)))))
  obtain ⟨nx', hnx'⟩ : ∃ m, m = nx.length := ⟨_, rfl⟩
  have HNX := zI hnx'
  rw [← hnx'] at H6 HFR6 ⊢
  clear hfr6 hfar hfp hA hns hown hlo5 hnx' f0 r0 c0 c1 c2 c3 c4 c5
  go_upto_region 9 with (fail)
  generalize (World.alloc w5 _) = w6 at *
  generalize w5.heap.size = b8 at *
  obtain ⟨b0, b1, b2, b3, b4⟩ := box5 H6.out.2.2.2.2.2
  by_cases hre : re = 0
  ·have e1 : (re != 0) = false := by simp [hre]
   have e2 : (re == 0) = true := beq_iff_eq.2 hre
   have e3 : (re = 0) = True := eq_true hre
   have hrun := HS.out.1 hre
   have hap9 := app_res w6 w.heap.size (.slice ar9 nr cr9) rs ⟨re, rp, rd, rv, rn⟩ na nc TRL H6.out.2.2.2.1 (by have := HS.out.2.2; omega) H6.out.1.size H6.out.2.2.2.2.1
   unfold strV at hap9
   simp only at hap9
   have HAP9 := zI hap9
   have HRUN := zI hrun
   clear hap9 hrun hre
   go_wp2_with (at_builtin; go_must (refine wpList_app rfl _ _ _ _ rfl _ _ rfl rfl _ HAP9.out ?_))
   intro v7 w7 hc
   have fa := fp_alloc w6 (.cells #[.int .i64 re, .string (B rp), .string (B rd), .int .i64 rv, .slice na rn.length nc] TR)
   have hown8 := fun j (hj : (Value.slice ar9 nr cr9).ownBlock = some j) => H6.out.2.2.2.1.lt j hj
   have hF7 := (H6.out.1.then fa).trans hc.fp (fun j hj => .inr (hown8 j hj).1)
   have hne7 : ∀ j, (Value.slice ar9 nr cr9).ownBlock = some j → j ≠ w.heap.size := fun j hj e => by
    obtain ⟨_, t1⟩ := H6.out.2.2.2.1.type hj
    rw [e] at t1
    exact type_ne t1 H6.out.2.1 (by decide)
   have hD7 := hc.fp.heap (fa.heap H6.out.2.1 id) (fun e => hne7 _ e rfl)
   have hN7 := (H6.out.2.2.1.non fa).keep1 hc.fp (fun h0 j hj e => HFR6.out (by rw [HNX.out]; exact h0) j hj e)
   have hfr7 : 0 < nx.length → ∀ j, (Value.slice ax nx' cx).ownBlock = some j → v7.ownBlock ≠ some j := fun h0 j hj e => by
    rcases hc.new j e with h | h
    ·exact HFR6.out (by rw [HNX.out]; exact h0) j hj h
    have h1 := H6.out.2.2.1.lt1 h0 j hj
    have h2 := fa.size
    omega
   have hM : Hid (∃ now rs, RunO t l (k + 1) now rs ∧ Ns w7 (.slice ax nx' cx) now ∧ Ors w.heap.size w7 v7 rs ∧ Fp Non w w7 ∧ w7.heap[w.heap.size]? = some (.cells #[.int .i64 0, .int .i64 0, .slice none 0 0] TDN (0, 0)) ∧ (0 < now.length → ∀ j, (Value.slice ax nx' cx).ownBlock = some j → v7.ownBlock ≠ some j)) :=
    ⟨nx, _, HRUN.out, hN7, hc.own, hF7, hD7, hfr7⟩
   clear hF7 hD7 hN7 hfr7 hne7 hown8 hc fa b0 b1 b2 b3 b4
   have hj1 := HL.out
   go_wp2
   go_roundw
   case rel => exact ⟨k + 1, by omega, by go_num, hM⟩
   case measure => simp [RowKit.intOf]; omega
  have e1 : (re != 0) = true := by simpa using hre
  have e2 : (re == 0) = false := beq_eq_false_iff_ne.2 hre
  have e3 : (re = 0) = False := eq_false hre
  have hex := HS.out.2.1 hre
  have HEX := zI hex
  obtain ⟨d0, d1, d2⟩ := box3 H6.out.2.1
  have z0 := frozen_at H6.out.2.1 0; have z1 := frozen_at H6.out.2.1 1; have z2 := frozen_at H6.out.2.1 2
  have hset := heap_setCell_same _ w.heap.size 2 _ TDN (.slice none 0 0) (heap_setCell_same _ w.heap.size 1 _ TDN (.int .i64 k) (heap_setCell_same w6 w.heap.size 0 _ TDN (.int .i64 re) H6.out.2.1))
  have hfs : Fp (fun j => j = w.heap.size) w6 (((w6.setCell ⟨w.heap.size, 0, none⟩ (.int .i64 re)).setCell ⟨w.heap.size, 1, none⟩ (.int .i64 k)).setCell ⟨w.heap.size, 2, none⟩ (.slice none 0 0)) := (((Fp.refl (fun j => j = w.heap.size) w6).setCell (p := ⟨w.heap.size, 0, none⟩) (.inl rfl) _).setCell (p := ⟨w.heap.size, 1, none⟩) (.inl rfl) _).setCell (p := ⟨w.heap.size, 2, none⟩) (.inl rfl) _
  have HJS := zI (yI ((Fp.refl Non _).drew.heap hset id) ((H6.out.1.trans hfs (fun j hj => .inr (by have hj : j = w.heap.size := hj; omega))).then (Fp.refl Non _).drew))
  clear hex hre hset hfs
  go_wp2_with fail
  go_region
  all_goals
   clear d0 d1 d2 z0 z1 z2 b0 b1 b2 b3 b4
   generalize (((World.setCell w6 _ _).setCell _ _).setCell _ _).drew = wz at *
   obtain ⟨t0, t1, t2⟩ := box3 HJS.out.1
   go_wp2_with fail
   refine bodyPost_ret (v := .tuple #[.slice ao nt cap, .agg #[.int .i64 re, .int .i64 k, .slice none 0 0]]) (by simp [results, Tryz.results41, go_sem, t0, t1, t2]) rfl ?_
   obtain ⟨now', rs', h1, h2, h3, h4⟩ := HEX.out
   exact ⟨.inr (.inr ⟨HB.out.1, HB.out.2, k, now', rs', h1, h2, by rw [h3]; exact h4, by rw [h3]⟩), HJS.out.2⟩
 have hke : k = n := by omega
 subst hke
 have q3 : ((k : Int) < (k : Int)) = False := eq_false (by omega)
 have hrun' : RunO t l l.length now rs := by rw [← HN.out.2.1]; exact hrun
 have hset := heap_setCell_same _ w.heap.size 2 _ TDN (.slice ar9 nr cr9) (heap_setCell_same _ w.heap.size 1 _ TDN (.int .i64 0) (heap_setCell_same wr w.heap.size 0 _ TDN (.int .i64 0) hD))
 have hfs : Fp (fun j => j = w.heap.size) wr (((wr.setCell ⟨w.heap.size, 0, none⟩ (.int .i64 0)).setCell ⟨w.heap.size, 1, none⟩ (.int .i64 0)).setCell ⟨w.heap.size, 2, none⟩ (.slice ar9 nr cr9)) := (((Fp.refl (fun j => j = w.heap.size) wr).setCell (p := ⟨w.heap.size, 0, none⟩) (.inl rfl) _).setCell (p := ⟨w.heap.size, 1, none⟩) (.inl rfl) _).setCell (p := ⟨w.heap.size, 2, none⟩) (.inl rfl) _
 have hN9 := hns.box3 (c2 := (none, 0, 0)) hD hfs
 have hO9 := hors.keepD hD hfs
 have HR9 := zI hrun'
 have HJS := zI (yI hset (yI (hF.trans hfs (fun j hj => .inr (by have hj : j = w.heap.size := hj; omega))) (yI hN9 hO9.rrs)))
 obtain ⟨d0, d1, d2⟩ := box3 hD
 have z0 := frozen_at hD 0; have z1 := frozen_at hD 1; have z2 := frozen_at hD 2
 clear hset hfs hN9 hO9 hrun hrun' hns hors hF hD hfr hlt hk
 go_wp2_with fail
 clear d0 d1 d2 z0 z1 z2
 generalize (((World.setCell wr _ _).setCell _ _).setCell _ _) = wz at *
 obtain ⟨t0, t1, t2⟩ := box3 HJS.out.1
 refine bodyPost_ret (v := .tuple #[.slice an6 nn cn6, .agg #[.int .i64 0, .int .i64 0, .slice ar9 nr cr9]]) (by simp [results, Tryz.results41, go_sem, t0, t1, t2]) rfl ?_
 exact ⟨.inr (.inl ⟨HB.out.1, HB.out.2, now, rs, _, _, HR9.out, rfl, HJS.out.2.2.1, HJS.out.2.2.2⟩), HJS.out.2.1⟩
set_option maxHeartbeats 4000000 in
theorem rSameListR_c (va vb : Value) (rs : List Res) (w : World) (ha : Rrs w va rs) (hb : Rrs w vb rs) (hn : rs.length ≤ 1000) :
  Calls Tryz.prog 51 #[va, vb] w fun e w' => e = .returned (.bool true) ∧ Fp Non w w' := by
 obtain ⟨L, hL, sL, oL⟩ := ha.ex
 obtain ⟨M, hM, sM, oM⟩ := hb.ex
 have hl1 : L.length = rs.length := by rw [← hL, List.length_map]
 have hl2 : M.length = rs.length := by rw [← hM, List.length_map]
 have hr : ∀ k (h1 : k < L.length) (h2 : k < M.length), L[k].r = M[k].r := fun k h1 h2 => by
  have e1 : (L.map Rw.r)[k]'(by simpa using h1) = (M.map Rw.r)[k]'(by simpa using h2) := by simp only [hL, hM]
  simpa using e1
 obtain ⟨ao, ca, rfl⟩ := sL.shape
 obtain ⟨bo, cb, rfl⟩ := sM.shape
 obtain ⟨n, hnn⟩ : ∃ n, n = rs.length := ⟨_, rfl⟩
 rw [← hnn] at hl1 hl2 hn
 have HX := zI (yI hl1 (yI hl2 (yI sL (yI sM (yI hr (yI oL oM))))))
 rw [hl1, hl2]
 have hnb : n ≤ 1000 := hn
 clear ha hb hL hM sL sM oL oM hl1 hl2 hr hn hnn
 go_enter Tryz.func51, Tryz.ntmps51
 go_wp2_with fail
 go_loopw [5] (fun i wr => ∃ k : Nat, k ≤ n ∧ i = .int .i64 k ∧ Hid (Fp Non w wr)) (fun i _ => n - (RowKit.intOf i).toNat)
 case atStart => exact ⟨0, Nat.zero_le _, rfl, Fp.refl _ _⟩
 obtain ⟨k, hk, rfl, hR⟩ := hrel
 rename_i wr _
 by_cases hlt : k < n
 ·have hkl : k < L.length := by rw [HX.out.1]; exact hlt
  have hkm : k < M.length := by rw [HX.out.2.1]; exact hlt
  obtain ⟨g, o, c1, e9, hc⟩ := (HX.out.2.2.1.non hR.out).at (by omega)
  rw [HX.out.1] at e9
  injection e9 with e1 e2 e3
  subst e1 e3
  clear e2
  obtain ⟨g', o', c2, e9, hc'⟩ := (HX.out.2.2.2.1.non hR.out).at (by omega)
  rw [HX.out.2.1] at e9
  injection e9 with e1 e2 e3
  subst e1 e3
  clear e2
  have hel := hc k hkl
  have hel' := hc' k hkm
  have ho1 := HX.out.2.2.2.2.2.1 L[k] (List.getElem_mem hkl)
  have ho2 := HX.out.2.2.2.2.2.2 M[k] (List.getElem_mem hkm)
  have hrr := HX.out.2.2.2.2.1 k hkl hkm
  generalize L[k] = x at *
  generalize M[k] = y at *
  obtain ⟨⟨re, rp, rd, rv, rn⟩, na, nc⟩ := x
  obtain ⟨q, ma, mc⟩ := y
  simp only at hrr
  subst hrr
  obtain ⟨lo1, ho1⟩ := ho1
  obtain ⟨lo2, ho2⟩ := ho2
  have hso := fun W (f : Fp Non wr W) => rSameOne_c re rp rd rv (.slice na rn.length nc) (.slice ma rn.length mc) W (fun w1 f1 => same_ownM (ho1.grown' ((hR.out.then f).then f1)) (ho2.grown' ((hR.out.then f).then f1)))
  have d0 := hel.get 0 _ rfl
  have d1 := hel.get 1 _ rfl
  have d2 := hel.get 2 _ rfl
  have d3 := hel.get 3 _ rfl
  have d4 := hel.get 4 _ rfl
  have f0 := hel'.get 0 _ rfl
  have f1 := hel'.get 1 _ rfl
  have f2 := hel'.get 2 _ rfl
  have f3 := hel'.get 3 _ rfl
  have f4 := hel'.get 4 _ rfl
  rw [Nat.add_zero] at d0 f0
  unfold strV at d1 d2 f1 f2
  unfold Rw.nv at d4 f4
  simp only at d0 d1 d2 d3 d4 f0 f1 f2 f3 f4
  obtain ⟨nn, hnn⟩ : ∃ nn, nn = rn.length := ⟨_, rfl⟩
  rw [← hnn] at d4 f4 hso
  have HSO := zI hso
  have q3 : ((k : Int) < (n : Int)) = True := eq_true (by omega)
  have q4 : (k < n) = True := eq_true hlt
  have HL := zI hlt
  clear hc hc' hel hel' hlt hkl hkm ho1 ho2 hso hnn
  go_wp2_with fail
  have Hq := zI (fun W (f : Fp Non wr W) => (yI (f.cell d0 id) (yI (f.cell d1 id) (yI (f.cell d2 id) (yI (f.cell d3 id) (yI (f.cell d4 id) (yI (f.cell f0 id) (yI (f.cell f1 id) (yI (f.cell f2 id) (yI (f.cell f3 id) (f.cell f4 id)))))))))))
  have HWD := zI (Fp.refl Non wr).drew
  clear d0 d1 d2 d3 d4 f0 f1 f2 f3 f4
  refine wp_region_held_drew (S := (fun w' => w'.cell? ⟨g, o + k * 5, none⟩ = some (.int .i64 re) ∧ w'.cell? ⟨g, o + k * 5 + 1, none⟩ = some (.string (B rp)) ∧ w'.cell? ⟨g, o + k * 5 + 2, none⟩ = some (.string (B rd)) ∧ w'.cell? ⟨g, o + k * 5 + 3, none⟩ = some (.int .i64 rv) ∧ w'.cell? ⟨g, o + k * 5 + 4, none⟩ = some (.slice na nn nc) ∧ w'.cell? ⟨g', o' + k * 5, none⟩ = some (.int .i64 re) ∧ w'.cell? ⟨g', o' + k * 5 + 1, none⟩ = some (.string (B rp)) ∧ w'.cell? ⟨g', o' + k * 5 + 2, none⟩ = some (.string (B rd)) ∧ w'.cell? ⟨g', o' + k * 5 + 3, none⟩ = some (.int .i64 rv) ∧ w'.cell? ⟨g', o' + k * 5 + 4, none⟩ = some (.slice ma nn mc))) (by kernel_rfl) ?_ (fun hH => ?_)
  ·exact Hq.out _ HWD.out
  generalize wr.drew = wd at *
  refine tk 0 hH ?_
  refine tk 1 hH ?_
  refine tk 2 hH ?_
  refine tk 3 hH ?_
  refine tk 4 hH ?_
  refine tk 5 hH ?_
  refine tk 6 hH ?_
  refine tk 7 hH ?_
  refine rY 8 fun K hK => ?_
  go_simp
  go_at_call 24
  refine (HSO.out _ HWD.out).mono ?_
  rintro e w11 ⟨rfl, hf⟩
  have HWG := zI (HWD.out.then hf)
  clear hf
  go_wp2_with fail
  refine hK.out _ _ (Hq.out _ HWG.out) (fun hH => ?_)
  clear hK K
  try simp only [zz]
  refine tk 9 hH ?_
  refine dn ?_
  have hM := zI (hR.out.then HWG.out)
  clear hH Hq HWD HWG HSO
  have hj := HL.out
  go_wp2
  go_roundw
  case rel => exact ⟨k + 1, by have := HL.out; omega, by have := HL.out; go_num, hM⟩
  case measure => have := HL.out; simp [RowKit.intOf]; omega
 obtain rfl : n = k := by omega
 have q3 : ((n : Int) < (n : Int)) = False := eq_false (by omega)
 clear hlt hk
 go_wp2
 go_ret
 exact ⟨rfl, hR.out⟩
def Out (t : List Nd) (l : List Opn) (A : List Nd) (er at_ : Int) (RS : List Res) : Prop :=
 (¬ (right t = true ∧ mayL l = true) ∧ A = [] ∧ er = 1 ∧ at_ = 0 ∧ RS = []) ∨
 ((right t = true ∧ mayL l = true) ∧ RunO t l l.length A RS ∧ er = 0 ∧ at_ = 0) ∨
 ((right t = true ∧ mayL l = true) ∧ ∃ (i : Nat) (now : List Nd) (rs : List Res), RunO t l i now rs ∧ ∃ h : i < l.length, (apply now l[i]).2.err ≠ 0 ∧ A = t ∧ er = (apply now l[i]).2.err ∧ at_ = (i : Int) ∧ RS = [])
theorem out_cross {t : List Nd} {l : List Opn} {A now : List Nd} {RS rs : List Res} {i : Nat} (g : RunO t l l.length A RS) (g' : RunO t l i now rs) (hi : i < l.length) (h0 : (apply now l[i]).2.err ≠ 0) : False := by
 obtain ⟨now', x, rs', q', g2, hj, _, ha, h0', _⟩ := g.back hi
 obtain ⟨rfl, rfl⟩ := g'.det g2
 rw [ha] at h0; exact h0 h0'
theorem Out.det {t : List Nd} {l : List Opn} {A A' : List Nd} {er er' at_ at' : Int} {RS RS' : List Res} (h : Out t l A er at_ RS) (g : Out t l A' er' at' RS') : A = A' ∧ er = er' ∧ at_ = at' ∧ RS = RS' := by
 rcases h with ⟨h0, rfl, rfl, rfl, rfl⟩ | ⟨h0, h1, rfl, rfl⟩ | ⟨h0, i, now, rs, h1, hi, he, rfl, rfl, rfl, rfl⟩ <;>
 rcases g with ⟨g0, rfl, rfl, rfl, rfl⟩ | ⟨g0, g1, rfl, rfl⟩ | ⟨g0, j, now', rs', g1, hj, ge, rfl, rfl, rfl, rfl⟩
 ·exact ⟨rfl, rfl, rfl, rfl⟩
 ·exact absurd g0 h0
 ·exact absurd g0 h0
 ·exact absurd h0 g0
 ·obtain ⟨rfl, rfl⟩ := h1.det g1; exact ⟨rfl, rfl, rfl, rfl⟩
 ·exact (out_cross h1 g1 hj ge).elim
 ·exact absurd h0 g0
 ·exact (out_cross g1 h1 hi he).elim
 have hij : i = j := by
  rcases Nat.lt_trichotomy i j with hlt | heq | hlt
  ·obtain ⟨now2, x, rs2, q', g2, _, _, ha, h0', _⟩ := g1.back hlt
   obtain ⟨rfl, rfl⟩ := h1.det g2
   rw [ha] at he; exact absurd h0' he
  ·exact heq
  obtain ⟨now2, x, rs2, q', g2, _, _, ha, h0', _⟩ := h1.back hlt
  obtain ⟨rfl, rfl⟩ := g1.det g2
  rw [ha] at ge; exact absurd h0' ge
 subst hij
 obtain ⟨rfl, rfl⟩ := h1.det g1
 exact ⟨rfl, rfl, rfl, rfl⟩
theorem Out.few {t : List Nd} {l : List Opn} {A : List Nd} {er at_ : Int} {RS : List Res} (h : Out t l A er at_ RS) (ht : t.length ≤ 3000) (hl : l.length ≤ 40) : A.length ≤ 3000 ∧ RS.length ≤ 40 := by
 rcases h with ⟨h0, rfl, rfl, rfl, rfl⟩ | ⟨h0, h1, rfl, rfl⟩ | ⟨h0, i, now, rs, h1, hi, he, rfl, rfl, rfl, rfl⟩
 ·exact ⟨by simp, by simp⟩
 ·have h2 := (h1.tree ((right_iff t).1 h0.1).tr ((mayL_iff l).1 h0.2).2).1.most
  have h3 := h1.len
  exact ⟨by omega, by omega⟩
 exact ⟨ht, by simp⟩
theorem MApR.out {t : List Nd} {v : Value} {l : List Opn} {w : World} {e : Ending} {w' : World} (h : MApR t v l w e w') (hn : Ns w' v t) :
  ∃ A er at_ RS x rv, Out t l A er at_ RS ∧ e = .returned (.tuple #[x, .agg #[.int .i64 er, .int .i64 at_, rv]]) ∧ Ns w' x A ∧ Rrs w' rv RS := by
 have nil : Rrs w' (.slice none 0 0) [] := (Ors.nil 0 w').rrs
 rcases h.way with ⟨h0, rfl⟩ | ⟨h1, h2, now, rs, v', rv, g, rfl, hz, hq⟩ | ⟨h1, h2, i, now, rs, g, hi, h0, rfl⟩
 ·exact ⟨[], 1, 0, [], _, _, .inl ⟨h0, rfl, rfl, rfl, rfl⟩, rfl, Ns.nil _, nil⟩
 ·exact ⟨now, 0, 0, rs, _, _, .inr (.inl ⟨⟨h1, h2⟩, g, rfl, rfl⟩), rfl, hz, hq⟩
 exact ⟨t, _, _, [], _, _, .inr (.inr ⟨⟨h1, h2⟩, i, now, rs, g, hi, h0, rfl, rfl, rfl, rfl⟩), rfl, hn, nil⟩
set_option maxHeartbeats 4000000 in
theorem rSameDone_c (er at_ : Int) (n1 n2 : Value) (w : World) (hsame : ∀ w1, Fp Non w w1 → Calls Tryz.prog 51 #[n1, n2] w1 fun e w' => e = .returned (.bool true) ∧ Fp Non w1 w') :
  Calls Tryz.prog 44 #[.agg #[.int .i64 er, .int .i64 at_, n1], .agg #[.int .i64 er, .int .i64 at_, n2]] w fun e w' => e = .returned (.bool true) ∧ Fp Non w w' := by
 have hf0 : ∀ o o', Fp Non w ((w.alloc o).alloc o') := fun o o' => ((Fp.refl Non w).alloc o).alloc o'
 have HF := zI hf0
 have HS := zI hsame
 clear hf0 hsame
 go_enter Tryz.func44, Tryz.ntmps44
 go_wp2_with fail
 refine (HS.out _ (HF.out _ _)).mono ?_
 rintro e w1 ⟨rfl, hf⟩
 have H1 := zI ((HF.out _ _).then hf)
 clear hf
 go_wp2
 go_ret
 exact ⟨rfl, H1.out⟩
theorem fTpc : (Tryz.prog.fieldsOf TPC).toList = [⟨ "Op", 3, 0, false, "", "", 0⟩, ⟨ "Part", 27, 1, false, "", "", 8⟩] := by kernel_rfl
theorem eq_pc (w : World) (i : Nat) (x : Pt) : (Op.equalIn 10000 TPC (.agg #[.int .i64 i, .int .i64 x.kind, .string (B x.dir), .string (B x.path), .string (B x.data), .int .i64 x.ver, .int .i64 x.own, .bool x.turns]) (.agg #[.int .i64 i, .int .i64 x.kind, .string (B x.dir), .string (B x.path), .string (B x.data), .int .i64 x.ver, .int .i64 x.own, .bool x.turns])).run Tryz.prog w = .ok true w := by
 rw [run_equalIn_agg w 9999 TPC _ _ (by kernel_rfl) (by kernel_rfl), fTpc]
 have e1 := fun w a b => run_equalIn_int (P := Tryz.prog) w 9998 3 .i64 .i64 a b Tryz.underlying3
 simp only [Op.eqFields]
 simp [e1, go_sem]
set_option maxHeartbeats 4000000 in
theorem rSamePieces_c (va vb : Value) (l : List (Nat × Pt)) (w : World) (ha : Sg pcC 8 w va l) (hb : Sg pcC 8 w vb l) (hn : l.length ≤ 1000) :
  Calls Tryz.prog 45 #[va, vb] w fun e w' => e = .returned (.bool true) ∧ Fp Non w w' := by
 obtain ⟨ao, ca, rfl⟩ := ha.shape
 obtain ⟨bo, cb, rfl⟩ := hb.shape
 obtain ⟨n, hnn⟩ : ∃ n, n = l.length := ⟨_, rfl⟩
 have hnb : n ≤ 1000 := by omega
 have HX := zI (yI hnn (yI ha hb))
 rw [← hnn]
 have heq := eq_pc
 clear ha hb hn hnn
 go_enter Tryz.func45, Tryz.ntmps45
 go_wp2_with fail
 go_loopw [5] (fun i wr => ∃ k : Nat, k ≤ n ∧ i = .int .i64 k ∧ Hid (Fp Non w wr)) (fun i _ => n - (RowKit.intOf i).toNat)
 case atStart => exact ⟨0, Nat.zero_le _, rfl, Fp.refl _ _⟩
 obtain ⟨k, hk, rfl, hR⟩ := hrel
 rename_i wr _
 by_cases hlt : k < n
 ·have hkl : k < l.length := by rw [← HX.out.1]; exact hlt
  obtain ⟨g, o, c1, e9, hc⟩ := (HX.out.2.1.non hR.out).at (by rw [← HX.out.1]; omega)
  injection e9 with e1 e2 e3
  subst e1 e3
  clear e2
  obtain ⟨g', o', c2, e9, hc'⟩ := (HX.out.2.2.non hR.out).at (by rw [← HX.out.1]; omega)
  injection e9 with e1 e2 e3
  subst e1 e3
  clear e2
  have hel := hc k hkl
  have hel' := hc' k hkl
  have heqx := fun W => heq W l[k].1 l[k].2
  generalize l[k] = y at *
  obtain ⟨y0, y⟩ := y
  have d0 := hel.get 0 _ rfl
  have d1 := hel.get 1 _ rfl
  have d2 := hel.get 2 _ rfl
  have d3 := hel.get 3 _ rfl
  have d4 := hel.get 4 _ rfl
  have d5 := hel.get 5 _ rfl
  have d6 := hel.get 6 _ rfl
  have d7 := hel.get 7 _ rfl
  have f0 := hel'.get 0 _ rfl
  have f1 := hel'.get 1 _ rfl
  have f2 := hel'.get 2 _ rfl
  have f3 := hel'.get 3 _ rfl
  have f4 := hel'.get 4 _ rfl
  have f5 := hel'.get 5 _ rfl
  have f6 := hel'.get 6 _ rfl
  have f7 := hel'.get 7 _ rfl
  rw [Nat.add_zero] at d0 f0
  unfold strV at d2 d3 d4 f2 f3 f4
  simp only at heqx d0 d1 d2 d3 d4 d5 d6 d7 f0 f1 f2 f3 f4 f5 f6 f7
  have q3 : ((k : Int) < (n : Int)) = True := eq_true (by omega)
  have q4 : (k < n) = True := eq_true hlt
  have HL := zI hlt
  have hnx := fun (N : Nat) => hR.out.then ((Fp.refl Non wr).drewN N)
  have HNX := zI hnx
  clear hc hc' hel hel' hlt hkl heq hnx
  go_wp2_with fail
  go_quiet (fail)
  go_wp2
  have hj := HL.out
  go_roundw
  case rel => exact ⟨k + 1, by have := HL.out; omega, by have := HL.out; go_num, HNX.out _⟩
  case measure => have := HL.out; simp [RowKit.intOf]; omega
 obtain rfl : n = k := by omega
 have q3 : ((n : Int) < (n : Int)) = False := eq_false (by omega)
 clear hlt hk heq
 go_wp2
 go_ret
 exact ⟨rfl, hR.out⟩
theorem Pts.made (w : World) (l : List Pt) : Sg ptC 7 (w.alloc (.cells (rowsG ptC l).toArray TP)) (.slice (some ⟨w.heap.size, 0, none⟩) l.length l.length) l := by
 have hb := heap_alloc_new w (.cells (rowsG ptC l).toArray TP)
 refine ⟨_, _, rfl, .inr ⟨_, _, rfl, fun i hi => ⟨fun j u hu => ?_⟩⟩⟩
 have hj : j < 7 := by rw [← ptC_len l[i]]; exact (List.getElem?_eq_some_iff.1 hu).1
 rw [cell_of_row _ _ _ _ _ _ hb, Nat.zero_add]
 have := rowsG_get (enc := ptC) ptC_len l i j hi hj
 simpa [this] using hu
structure PtR (w : World) (l : List Pt) (e : Ending) (w' : World) : Prop where
 ex : ∃ v', e = .returned v' ∧ Sg ptC 7 w' v' l ∧ ∀ j, v'.ownBlock = some j → w.heap.size ≤ j
 fp : Fp Non w w'
theorem PtR.of {w u : World} (f : Fp Non w u) (l : List Pt) : PtR w l (.returned (.slice (some ⟨u.heap.size, 0, none⟩) l.length l.length)) (u.alloc (.cells (rowsG ptC l).toArray TP)) :=
 ⟨⟨_, rfl, Pts.made u l, fun j hj => by have : u.heap.size = j := (by simpa [Value.ownBlock] using hj); have := f.size; omega⟩, f.then (fp_alloc _ _)⟩
theorem PtR.of2 {w u : World} (f : Fp Non w u) (x y : Obj) (l : List Pt) : PtR w l (.returned (.slice (some ⟨u.heap.size + 1 + 1, 0, none⟩) l.length l.length)) (((u.alloc x).alloc y).alloc (.cells (rowsG ptC l).toArray TP)) := by
 have h := PtR.of ((f.alloc x).alloc y) l
 rw [show ((u.alloc x).alloc y).heap.size = u.heap.size + 1 + 1 from by simp] at h
 exact h
attribute [local irreducible] wpStill
set_option maxHeartbeats 16000000 in
theorem rOf_c (o : Opn) (w : World) (hl : o.path.length ≤ 1000000) :
  Calls Tryz.prog 31 #[opV o] w (PtR w (partsOf o)) := by
 have hmc := fun w => rMay_c o w hl
 obtain ⟨kk, p, d, v, ow, t⟩ := o
 obtain ⟨bm, hm⟩ : ∃ b, may ⟨kk, p, d, v, ow, t⟩ = b := ⟨_, rfl⟩
 rw [hm] at hmc
 have hf0 := fp_alloc w (.cells #[.int .i64 kk, .string (B p), .string (B d), .int .i64 v, .int .i64 ow, .bool t] TO_)
 have hb0 := heap_alloc_new w (.cells #[.int .i64 kk, .string (B p), .string (B d), .int .i64 v, .int .i64 ow, .bool t] TO_)
 have K0 := zI (Kp.and (Kp.row hb0) (Kp.fp hf0))
 unfold opV strV at hmc ⊢
 simp only at hmc ⊢
 have HM := zI hmc
 clear hmc hf0 hb0
 cases bm with
 | false =>
  have e : partsOf ⟨kk, p, d, v, ow, t⟩ = [] := by unfold partsOf; rw [hm]; rfl
  rw [e]
  clear e hm hl
  go_enter Tryz.func31, Tryz.ntmps31
  go_upto_region 1 with (fail)
  generalize (World.alloc w _) = w0 at *
  obtain ⟨o0, o1, o2, o3, o4, o5⟩ := box6 K0.out.now.1
  go_wp2_with fail
  refine (HM.out _).mono ?_
  rintro e w1 ⟨rfl, hf⟩
  have F := zI (K0.out.now.2.then hf)
  clear hf o0 o1 o2 o3 o4 o5
  go_wp2
  go_ret
  exact ⟨⟨_, rfl, Sg.nil _, fun j hj => by simp [Value.ownBlock] at hj⟩, F.out⟩
 | true => ?_
 have hk := may_kind hm
 have hp : p.length ≤ 100 := split_len (may_split hm)
 clear hl
 simp only at hk
 obtain ⟨q, hqe⟩ : ∃ q, upB p = q := ⟨_, rfl⟩
 have hqq : q.length ≤ 100 := by
  rw [← hqe]; unfold upB
  cases h : parent p with
  | none => simp
  | some u => ?_
  obtain ⟨_, _, _, hul, _⟩ := parent_some h
  simp only [Option.getD_some]; omega
 have hup := fun W => rUp_c p W (by omega)
 rw [hqe] at hup
 have HUP := zI hup
 have HUQ := zI (fun W => rUp_c q W (by omega))
 clear hup hqq hp
 rcases hk with rfl | rfl | rfl | rfl | rfl | rfl | rfl
 ·have e : partsOf ⟨1, p, d, v, ow, t⟩ = [⟨1, upB q, q, [], 0, 0, false⟩, ⟨2, q, p, d, 0, ow, t⟩] := by unfold partsOf; rw [if_pos hm]; simp only [hqe]; rfl
  rw [e]
  clear e hm hqe
  go_enter Tryz.func31, Tryz.ntmps31
  go_upto_region 1 with (fail)
  generalize (World.alloc w _) = w0 at *
  obtain ⟨o0, o1, o2, o3, o4, o5⟩ := box6 K0.out.now.1
  go_wp2_with fail
  refine (HM.out _).mono ?_
  rintro e w1 ⟨rfl, hf⟩
  have K1 := zI (K0.out.later hf)
  clear hf o0 o1 o2 o3 o4 o5 K0
  obtain ⟨o0, o1, o2, o3, o4, o5⟩ := box6 K1.out.now.1
  go_wp2_with fail
  refine (HUP.out _).mono ?_
  rintro e w2 ⟨rfl, hf⟩
  have K2 := zI (K1.out.later hf)
  clear hf o0 o1 o2 o3 o4 o5 K1
  obtain ⟨o0, o1, o2, o3, o4, o5⟩ := box6 K2.out.now.1
  have g0 := fun x => (box6 (K2.out.later ((Fp.refl Non w2).alloc x)).now.1).1
  have h0 := fun x y => (box6 (K2.out.later (((Fp.refl Non w2).alloc x).alloc y)).now.1).1
  have g1 := fun x => (box6 (K2.out.later ((Fp.refl Non w2).alloc x)).now.1).2.1
  have h1 := fun x y => (box6 (K2.out.later (((Fp.refl Non w2).alloc x).alloc y)).now.1).2.1
  have g2 := fun x => (box6 (K2.out.later ((Fp.refl Non w2).alloc x)).now.1).2.2.1
  have h2 := fun x y => (box6 (K2.out.later (((Fp.refl Non w2).alloc x).alloc y)).now.1).2.2.1
  have g3 := fun x => (box6 (K2.out.later ((Fp.refl Non w2).alloc x)).now.1).2.2.2.1
  have h3 := fun x y => (box6 (K2.out.later (((Fp.refl Non w2).alloc x).alloc y)).now.1).2.2.2.1
  have g4 := fun x => (box6 (K2.out.later ((Fp.refl Non w2).alloc x)).now.1).2.2.2.2.1
  have h4 := fun x y => (box6 (K2.out.later (((Fp.refl Non w2).alloc x).alloc y)).now.1).2.2.2.2.1
  have g5 := fun x => (box6 (K2.out.later ((Fp.refl Non w2).alloc x)).now.1).2.2.2.2.2
  have h5 := fun x y => (box6 (K2.out.later (((Fp.refl Non w2).alloc x).alloc y)).now.1).2.2.2.2.2
  go_upto_region 8 with (fail)
  clear o0 o1 o2 o3 o4 o5 g0 g1 g2 g3 g4 g5 h0 h1 h2 h3 h4 h5
  have K3 := zI ((K2.out.later ((Fp.refl Non w2).alloc (.cells #[.int .i64 0, .string (B q), .string (B p), .string ⟨#[]⟩, .int .i64 0, .int .i64 0, .bool false] TP))).later ((Fp.refl Non _).alloc (.cells #[.int .i64 0, .string (B p), .string (B p), .string ⟨#[]⟩, .int .i64 0, .int .i64 0, .bool false] TP)))
  clear K2
  generalize (World.alloc (World.alloc w2 _) _) = w3 at *
  have KD := zI (K3.out.later (Fp.refl Non w3).drew)
  have Hq := zI (fun W (f : Fp Non w3.drew W) => yI (box6 (KD.out.later f).now.1).2.1 (yI (box6 (KD.out.later f).now.1).2.2.1 (yI (box6 (KD.out.later f).now.1).2.2.2.2.1 (box6 (KD.out.later f).now.1).2.2.2.2.2)))
  go_wp2_with fail
  refine wp_region_held_drew (S := (fun w' => w'.cell? ⟨w.heap.size, 1, none⟩ = some (.string (B p)) ∧ w'.cell? ⟨w.heap.size, 2, none⟩ = some (.string (B d)) ∧ w'.cell? ⟨w.heap.size, 4, none⟩ = some (.int .i64 ow) ∧ w'.cell? ⟨w.heap.size, 5, none⟩ = some (.bool t))) (by kernel_rfl) ?_ (fun hH => ?_)
  ·exact Hq.out _ (Fp.refl _ _)
  generalize w3.drew = wd at *
  refine tk 0 hH ?_
  refine tk 2 hH ?_
  refine tk 4 hH ?_
  refine tk 5 hH ?_
  refine tk 6 hH ?_
  refine tk 7 hH ?_
  refine tk 8 hH ?_
  refine tk 9 hH ?_
  refine tk 10 hH ?_
  refine tk 11 hH ?_
  refine tk 12 hH ?_
  refine tk 13 hH ?_
  refine rY 1 fun K hK => ?_
  go_simp
  go_at_call 69
  refine (HUQ.out _).mono ?_
  rintro e w4 ⟨rfl, hf⟩
  have HF4 := zI hf
  have K4 := zI (KD.out.later hf)
  clear hf KD
  go_wp2_with fail
  refine hK.out _ _ (Hq.out _ HF4.out) (fun hH => ?_)
  clear hK K
  try simp only [zz]
  refine tk 3 hH ?_
  refine rY 14 fun K hK => ?_
  go_simp
  refine hK.out _ _ (Hq.out _ (HF4.out.then (fp_alloc w4 _))) (fun hH => ?_)
  clear hK K
  try simp only [zz]
  refine rY 15 fun K hK => ?_
  go_simp
  refine hK.out _ _ (Hq.out _ (HF4.out.then (fp_alloc w4 _))) (fun hH => ?_)
  clear hK K
  try simp only [zz]
  refine dn ?_
  go_wp2
  go_ret
  exact PtR.of K4.out.now.2 [⟨1, upB q, q, [], 0, 0, false⟩, ⟨2, q, p, d, 0, ow, t⟩]
 ·have e : partsOf ⟨2, p, d, v, ow, t⟩ = [⟨3, q, p, [], v, 0, false⟩, ⟨4, p, p, [], 0, 0, false⟩] := by unfold partsOf; rw [if_pos hm]; simp only [hqe]; rfl
  rw [e]
  clear e hm hqe
  go_enter Tryz.func31, Tryz.ntmps31
  go_upto_region 1 with (fail)
  generalize (World.alloc w _) = w0 at *
  obtain ⟨o0, o1, o2, o3, o4, o5⟩ := box6 K0.out.now.1
  go_wp2_with fail
  refine (HM.out _).mono ?_
  rintro e w1 ⟨rfl, hf⟩
  have K1 := zI (K0.out.later hf)
  clear hf o0 o1 o2 o3 o4 o5 K0
  obtain ⟨o0, o1, o2, o3, o4, o5⟩ := box6 K1.out.now.1
  go_wp2_with fail
  refine (HUP.out _).mono ?_
  rintro e w2 ⟨rfl, hf⟩
  have K2 := zI (K1.out.later hf)
  clear hf o0 o1 o2 o3 o4 o5 K1
  obtain ⟨o0, o1, o2, o3, o4, o5⟩ := box6 K2.out.now.1
  have g0 := fun x => (box6 (K2.out.later ((Fp.refl Non w2).alloc x)).now.1).1
  have h0 := fun x y => (box6 (K2.out.later (((Fp.refl Non w2).alloc x).alloc y)).now.1).1
  have g1 := fun x => (box6 (K2.out.later ((Fp.refl Non w2).alloc x)).now.1).2.1
  have h1 := fun x y => (box6 (K2.out.later (((Fp.refl Non w2).alloc x).alloc y)).now.1).2.1
  have g2 := fun x => (box6 (K2.out.later ((Fp.refl Non w2).alloc x)).now.1).2.2.1
  have h2 := fun x y => (box6 (K2.out.later (((Fp.refl Non w2).alloc x).alloc y)).now.1).2.2.1
  have g3 := fun x => (box6 (K2.out.later ((Fp.refl Non w2).alloc x)).now.1).2.2.2.1
  have h3 := fun x y => (box6 (K2.out.later (((Fp.refl Non w2).alloc x).alloc y)).now.1).2.2.2.1
  have g4 := fun x => (box6 (K2.out.later ((Fp.refl Non w2).alloc x)).now.1).2.2.2.2.1
  have h4 := fun x y => (box6 (K2.out.later (((Fp.refl Non w2).alloc x).alloc y)).now.1).2.2.2.2.1
  have g5 := fun x => (box6 (K2.out.later ((Fp.refl Non w2).alloc x)).now.1).2.2.2.2.2
  have h5 := fun x y => (box6 (K2.out.later (((Fp.refl Non w2).alloc x).alloc y)).now.1).2.2.2.2.2
  go_wp2
  go_ret
  exact PtR.of2 K2.out.now.2 _ _ [⟨3, q, p, [], v, 0, false⟩, ⟨4, p, p, [], 0, 0, false⟩]
 ·have e : partsOf ⟨3, p, d, v, ow, t⟩ = [⟨5, q, p, d, v, 0, false⟩] := by unfold partsOf; rw [if_pos hm]; simp only [hqe]; rfl
  rw [e]
  clear e hm hqe
  go_enter Tryz.func31, Tryz.ntmps31
  go_upto_region 1 with (fail)
  generalize (World.alloc w _) = w0 at *
  obtain ⟨o0, o1, o2, o3, o4, o5⟩ := box6 K0.out.now.1
  go_wp2_with fail
  refine (HM.out _).mono ?_
  rintro e w1 ⟨rfl, hf⟩
  have K1 := zI (K0.out.later hf)
  clear hf o0 o1 o2 o3 o4 o5 K0
  obtain ⟨o0, o1, o2, o3, o4, o5⟩ := box6 K1.out.now.1
  go_wp2_with fail
  refine (HUP.out _).mono ?_
  rintro e w2 ⟨rfl, hf⟩
  have K2 := zI (K1.out.later hf)
  clear hf o0 o1 o2 o3 o4 o5 K1
  obtain ⟨o0, o1, o2, o3, o4, o5⟩ := box6 K2.out.now.1
  have g0 := fun x => (box6 (K2.out.later ((Fp.refl Non w2).alloc x)).now.1).1
  have h0 := fun x y => (box6 (K2.out.later (((Fp.refl Non w2).alloc x).alloc y)).now.1).1
  have g1 := fun x => (box6 (K2.out.later ((Fp.refl Non w2).alloc x)).now.1).2.1
  have h1 := fun x y => (box6 (K2.out.later (((Fp.refl Non w2).alloc x).alloc y)).now.1).2.1
  have g2 := fun x => (box6 (K2.out.later ((Fp.refl Non w2).alloc x)).now.1).2.2.1
  have h2 := fun x y => (box6 (K2.out.later (((Fp.refl Non w2).alloc x).alloc y)).now.1).2.2.1
  have g3 := fun x => (box6 (K2.out.later ((Fp.refl Non w2).alloc x)).now.1).2.2.2.1
  have h3 := fun x y => (box6 (K2.out.later (((Fp.refl Non w2).alloc x).alloc y)).now.1).2.2.2.1
  have g4 := fun x => (box6 (K2.out.later ((Fp.refl Non w2).alloc x)).now.1).2.2.2.2.1
  have h4 := fun x y => (box6 (K2.out.later (((Fp.refl Non w2).alloc x).alloc y)).now.1).2.2.2.2.1
  have g5 := fun x => (box6 (K2.out.later ((Fp.refl Non w2).alloc x)).now.1).2.2.2.2.2
  have h5 := fun x y => (box6 (K2.out.later (((Fp.refl Non w2).alloc x).alloc y)).now.1).2.2.2.2.2
  go_wp2
  go_ret
  exact PtR.of2 K2.out.now.2 _ _ [⟨5, q, p, d, v, 0, false⟩]
 ·have e : partsOf ⟨4, p, d, v, ow, t⟩ = [⟨6, q, p, [], v, 0, false⟩] := by unfold partsOf; rw [if_pos hm]; simp only [hqe]; rfl
  rw [e]
  clear e hm hqe
  go_enter Tryz.func31, Tryz.ntmps31
  go_upto_region 1 with (fail)
  generalize (World.alloc w _) = w0 at *
  obtain ⟨o0, o1, o2, o3, o4, o5⟩ := box6 K0.out.now.1
  go_wp2_with fail
  refine (HM.out _).mono ?_
  rintro e w1 ⟨rfl, hf⟩
  have K1 := zI (K0.out.later hf)
  clear hf o0 o1 o2 o3 o4 o5 K0
  obtain ⟨o0, o1, o2, o3, o4, o5⟩ := box6 K1.out.now.1
  go_wp2_with fail
  refine (HUP.out _).mono ?_
  rintro e w2 ⟨rfl, hf⟩
  have K2 := zI (K1.out.later hf)
  clear hf o0 o1 o2 o3 o4 o5 K1
  obtain ⟨o0, o1, o2, o3, o4, o5⟩ := box6 K2.out.now.1
  have g0 := fun x => (box6 (K2.out.later ((Fp.refl Non w2).alloc x)).now.1).1
  have h0 := fun x y => (box6 (K2.out.later (((Fp.refl Non w2).alloc x).alloc y)).now.1).1
  have g1 := fun x => (box6 (K2.out.later ((Fp.refl Non w2).alloc x)).now.1).2.1
  have h1 := fun x y => (box6 (K2.out.later (((Fp.refl Non w2).alloc x).alloc y)).now.1).2.1
  have g2 := fun x => (box6 (K2.out.later ((Fp.refl Non w2).alloc x)).now.1).2.2.1
  have h2 := fun x y => (box6 (K2.out.later (((Fp.refl Non w2).alloc x).alloc y)).now.1).2.2.1
  have g3 := fun x => (box6 (K2.out.later ((Fp.refl Non w2).alloc x)).now.1).2.2.2.1
  have h3 := fun x y => (box6 (K2.out.later (((Fp.refl Non w2).alloc x).alloc y)).now.1).2.2.2.1
  have g4 := fun x => (box6 (K2.out.later ((Fp.refl Non w2).alloc x)).now.1).2.2.2.2.1
  have h4 := fun x y => (box6 (K2.out.later (((Fp.refl Non w2).alloc x).alloc y)).now.1).2.2.2.2.1
  have g5 := fun x => (box6 (K2.out.later ((Fp.refl Non w2).alloc x)).now.1).2.2.2.2.2
  have h5 := fun x y => (box6 (K2.out.later (((Fp.refl Non w2).alloc x).alloc y)).now.1).2.2.2.2.2
  go_wp2
  go_ret
  exact PtR.of2 K2.out.now.2 _ _ [⟨6, q, p, [], v, 0, false⟩]
 ·have e : partsOf ⟨5, p, d, v, ow, t⟩ = [⟨7, q, p, [], 0, 0, false⟩] := by unfold partsOf; rw [if_pos hm]; simp only [hqe]; rfl
  rw [e]
  clear e hm hqe
  go_enter Tryz.func31, Tryz.ntmps31
  go_upto_region 1 with (fail)
  generalize (World.alloc w _) = w0 at *
  obtain ⟨o0, o1, o2, o3, o4, o5⟩ := box6 K0.out.now.1
  go_wp2_with fail
  refine (HM.out _).mono ?_
  rintro e w1 ⟨rfl, hf⟩
  have K1 := zI (K0.out.later hf)
  clear hf o0 o1 o2 o3 o4 o5 K0
  obtain ⟨o0, o1, o2, o3, o4, o5⟩ := box6 K1.out.now.1
  go_wp2_with fail
  refine (HUP.out _).mono ?_
  rintro e w2 ⟨rfl, hf⟩
  have K2 := zI (K1.out.later hf)
  clear hf o0 o1 o2 o3 o4 o5 K1
  obtain ⟨o0, o1, o2, o3, o4, o5⟩ := box6 K2.out.now.1
  have g0 := fun x => (box6 (K2.out.later ((Fp.refl Non w2).alloc x)).now.1).1
  have h0 := fun x y => (box6 (K2.out.later (((Fp.refl Non w2).alloc x).alloc y)).now.1).1
  have g1 := fun x => (box6 (K2.out.later ((Fp.refl Non w2).alloc x)).now.1).2.1
  have h1 := fun x y => (box6 (K2.out.later (((Fp.refl Non w2).alloc x).alloc y)).now.1).2.1
  have g2 := fun x => (box6 (K2.out.later ((Fp.refl Non w2).alloc x)).now.1).2.2.1
  have h2 := fun x y => (box6 (K2.out.later (((Fp.refl Non w2).alloc x).alloc y)).now.1).2.2.1
  have g3 := fun x => (box6 (K2.out.later ((Fp.refl Non w2).alloc x)).now.1).2.2.2.1
  have h3 := fun x y => (box6 (K2.out.later (((Fp.refl Non w2).alloc x).alloc y)).now.1).2.2.2.1
  have g4 := fun x => (box6 (K2.out.later ((Fp.refl Non w2).alloc x)).now.1).2.2.2.2.1
  have h4 := fun x y => (box6 (K2.out.later (((Fp.refl Non w2).alloc x).alloc y)).now.1).2.2.2.2.1
  have g5 := fun x => (box6 (K2.out.later ((Fp.refl Non w2).alloc x)).now.1).2.2.2.2.2
  have h5 := fun x y => (box6 (K2.out.later (((Fp.refl Non w2).alloc x).alloc y)).now.1).2.2.2.2.2
  go_wp2
  go_ret
  exact PtR.of2 K2.out.now.2 _ _ [⟨7, q, p, [], 0, 0, false⟩]
 ·have e : partsOf ⟨6, p, d, v, ow, t⟩ = [⟨8, q, p, [], 0, 0, false⟩, ⟨9, p, p, [], 0, 0, false⟩] := by unfold partsOf; rw [if_pos hm]; simp only [hqe]; rfl
  rw [e]
  clear e hm hqe
  go_enter Tryz.func31, Tryz.ntmps31
  go_upto_region 1 with (fail)
  generalize (World.alloc w _) = w0 at *
  obtain ⟨o0, o1, o2, o3, o4, o5⟩ := box6 K0.out.now.1
  go_wp2_with fail
  refine (HM.out _).mono ?_
  rintro e w1 ⟨rfl, hf⟩
  have K1 := zI (K0.out.later hf)
  clear hf o0 o1 o2 o3 o4 o5 K0
  obtain ⟨o0, o1, o2, o3, o4, o5⟩ := box6 K1.out.now.1
  go_wp2_with fail
  refine (HUP.out _).mono ?_
  rintro e w2 ⟨rfl, hf⟩
  have K2 := zI (K1.out.later hf)
  clear hf o0 o1 o2 o3 o4 o5 K1
  obtain ⟨o0, o1, o2, o3, o4, o5⟩ := box6 K2.out.now.1
  have g0 := fun x => (box6 (K2.out.later ((Fp.refl Non w2).alloc x)).now.1).1
  have h0 := fun x y => (box6 (K2.out.later (((Fp.refl Non w2).alloc x).alloc y)).now.1).1
  have g1 := fun x => (box6 (K2.out.later ((Fp.refl Non w2).alloc x)).now.1).2.1
  have h1 := fun x y => (box6 (K2.out.later (((Fp.refl Non w2).alloc x).alloc y)).now.1).2.1
  have g2 := fun x => (box6 (K2.out.later ((Fp.refl Non w2).alloc x)).now.1).2.2.1
  have h2 := fun x y => (box6 (K2.out.later (((Fp.refl Non w2).alloc x).alloc y)).now.1).2.2.1
  have g3 := fun x => (box6 (K2.out.later ((Fp.refl Non w2).alloc x)).now.1).2.2.2.1
  have h3 := fun x y => (box6 (K2.out.later (((Fp.refl Non w2).alloc x).alloc y)).now.1).2.2.2.1
  have g4 := fun x => (box6 (K2.out.later ((Fp.refl Non w2).alloc x)).now.1).2.2.2.2.1
  have h4 := fun x y => (box6 (K2.out.later (((Fp.refl Non w2).alloc x).alloc y)).now.1).2.2.2.2.1
  have g5 := fun x => (box6 (K2.out.later ((Fp.refl Non w2).alloc x)).now.1).2.2.2.2.2
  have h5 := fun x y => (box6 (K2.out.later (((Fp.refl Non w2).alloc x).alloc y)).now.1).2.2.2.2.2
  go_wp2
  go_ret
  exact PtR.of2 K2.out.now.2 _ _ [⟨8, q, p, [], 0, 0, false⟩, ⟨9, p, p, [], 0, 0, false⟩]
 have e : partsOf ⟨7, p, d, v, ow, t⟩ = [⟨8, q, p, [], 0, 0, false⟩, ⟨10, p, p, [], 0, ow, false⟩] := by unfold partsOf; rw [if_pos hm]; simp only [hqe]; rfl
 rw [e]
 clear e hm hqe
 go_enter Tryz.func31, Tryz.ntmps31
 go_upto_region 1 with (fail)
 generalize (World.alloc w _) = w0 at *
 obtain ⟨o0, o1, o2, o3, o4, o5⟩ := box6 K0.out.now.1
 go_wp2_with fail
 refine (HM.out _).mono ?_
 rintro e w1 ⟨rfl, hf⟩
 have K1 := zI (K0.out.later hf)
 clear hf o0 o1 o2 o3 o4 o5 K0
 obtain ⟨o0, o1, o2, o3, o4, o5⟩ := box6 K1.out.now.1
 go_wp2_with fail
 refine (HUP.out _).mono ?_
 rintro e w2 ⟨rfl, hf⟩
 have K2 := zI (K1.out.later hf)
 clear hf o0 o1 o2 o3 o4 o5 K1
 obtain ⟨o0, o1, o2, o3, o4, o5⟩ := box6 K2.out.now.1
 have g0 := fun x => (box6 (K2.out.later ((Fp.refl Non w2).alloc x)).now.1).1
 have h0 := fun x y => (box6 (K2.out.later (((Fp.refl Non w2).alloc x).alloc y)).now.1).1
 have g1 := fun x => (box6 (K2.out.later ((Fp.refl Non w2).alloc x)).now.1).2.1
 have h1 := fun x y => (box6 (K2.out.later (((Fp.refl Non w2).alloc x).alloc y)).now.1).2.1
 have g2 := fun x => (box6 (K2.out.later ((Fp.refl Non w2).alloc x)).now.1).2.2.1
 have h2 := fun x y => (box6 (K2.out.later (((Fp.refl Non w2).alloc x).alloc y)).now.1).2.2.1
 have g3 := fun x => (box6 (K2.out.later ((Fp.refl Non w2).alloc x)).now.1).2.2.2.1
 have h3 := fun x y => (box6 (K2.out.later (((Fp.refl Non w2).alloc x).alloc y)).now.1).2.2.2.1
 have g4 := fun x => (box6 (K2.out.later ((Fp.refl Non w2).alloc x)).now.1).2.2.2.2.1
 have h4 := fun x y => (box6 (K2.out.later (((Fp.refl Non w2).alloc x).alloc y)).now.1).2.2.2.2.1
 have g5 := fun x => (box6 (K2.out.later ((Fp.refl Non w2).alloc x)).now.1).2.2.2.2.2
 have h5 := fun x y => (box6 (K2.out.later (((Fp.refl Non w2).alloc x).alloc y)).now.1).2.2.2.2.2
 go_wp2
 go_ret
 exact PtR.of2 K2.out.now.2 _ _ [⟨8, q, p, [], 0, 0, false⟩, ⟨10, p, p, [], 0, ow, false⟩]
end Go.Proofs.YtphoglepiegeiaaGreatDoor
