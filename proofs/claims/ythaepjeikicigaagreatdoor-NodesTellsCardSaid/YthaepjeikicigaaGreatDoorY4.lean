/- Texts of this proof, merged. -/
import Derived.Test.YthaepjeikicigaaGreatDoorZZ
import Derived.Test.YthaepjeikicigaaGreatDoorY1
import Derived.Test.YthaepjeikicigaaGreatDoorY2
import Derived.Test.YthaepjeikicigaaGreatDoorY3
/- The document's Apply, whole. -/
namespace Go.Proofs.YthaepjeikicigaaGreatDoor
set_option linter.unusedSimpArgs false
set_option linter.unusedVariables false
set_option maxRecDepth 20000
set_option linter.unusedVariables false
set_option linter.unusedSimpArgs false
open Go.RowKit Pm
set_option maxHeartbeats 4000000 in
theorem rApply_r (v : Value) (l : List Nd) (kk : Int) (p d : Bs) (vv ow : Int) (tt : Bool) (w : World) (hv : Ns w v l) (hs : Sp l) (hp : p.length ≤ 1000000) (h : right l = false) :
    Calls Tryz.prog 8 #[v, .agg #[.int .i64 kk, .string (B p), .string (B d), .int .i64 vv, .int .i64 ow, .bool tt]] w (ApR w [] (.bad 1)) := by
  obtain ⟨ao, cap, rfl⟩ := hv.shape
  have hb0 := Bx.made w kk p d vv ow tt
  have hf0 : Fp Non w ((w.alloc (.cells #[.int .i64 kk, .string (B p), .string (B d), .int .i64 vv, .int .i64 ow, .bool tt] TO_)).alloc (.cells #[.int .i64 0, .string ⟨#[]⟩, .string ⟨#[]⟩, .int .i64 0, .slice none 0 0] TR)) := (fp_alloc w _).then (fp_alloc _ _)
  have HF0 := Lib.hid (Kp.and (fun W' f => hb0.non f : Kp (Bx w kk p d vv ow tt) ((w.alloc (.cells #[.int .i64 kk, .string (B p), .string (B d), .int .i64 vv, .int .i64 ow, .bool tt] TO_)).alloc (.cells #[.int .i64 0, .string ⟨#[]⟩, .string ⟨#[]⟩, .int .i64 0, .slice none 0 0] TR))) (Kp.and (Kp.fp hf0) (Kp.ns (hv.non hf0))))
  have hrr := fun w' hv => rRightN_g (.slice ao l.length cap) l w' hv hs
  have hmy := fun w' => rMay_c ⟨kk, p, d, vv, ow, tt⟩ w' hp
  unfold opV strV at hmy
  simp only at hmy
  rw [h] at hrr
  obtain ⟨n, hnn⟩ : ∃ n, n = l.length := ⟨_, rfl⟩
  rw [← hnn] at HF0 hrr ⊢
  have HRR := Lib.hid hrr
  clear hb0 hf0 hrr hmy hv hs hp h hnn
  go_enter Tryz.func8, Tryz.ntmps8
  go_wp2_with fail
  refine (HRR.out _ HF0.out.now.2.2).mono ?_
  rintro e w1 ⟨rfl, hf⟩
  have K1 := Lib.hid (HF0.out.later hf)
  clear hf
  have hbr := K1.out.now.1
  have hfw := K1.out.now.2.1
  obtain ⟨r0, r1, r2, r3, r4⟩ := hbr.r
  have z0 := hbr.fz 0; have z1 := hbr.fz 1; have z2 := hbr.fz 2; have z3 := hbr.fz 3; have z4 := hbr.fz 4
  have HE := Lib.hid (And.intro hbr.res hfw)
  clear hbr hfw
  go_wp2
  have hw9 := set5 HE.out.1 (.int .i64 1) (.string ⟨#[]⟩) (.string ⟨#[]⟩) (.int .i64 0) (.slice none 0 0)
  have hfz := fp5 (S := Non) HE.out.2 (b := w.heap.size + 1) (.inr (by omega)) (.int .i64 1) (.string ⟨#[]⟩) (.string ⟨#[]⟩) (.int .i64 0) (.slice none 0 0)
  have hfk := fp5k HE.out.1 (.int .i64 1) (.string ⟨#[]⟩) (.string ⟨#[]⟩) (.int .i64 0) (.slice none 0 0)
  generalize (((((World.setCell _ _ _).setCell _ _).setCell _ _).setCell _ _).setCell _ _) = wz at *
  have s0 := cell_of_row _ (w.heap.size + 1) 0 _ _ _ hw9
  have s1 := cell_of_row _ (w.heap.size + 1) 1 _ _ _ hw9
  have s2 := cell_of_row _ (w.heap.size + 1) 2 _ _ _ hw9
  have s3 := cell_of_row _ (w.heap.size + 1) 3 _ _ _ hw9
  have s4 := cell_of_row _ (w.heap.size + 1) 4 _ _ _ hw9
  simp only [zA, zB, zC] at s0 s1 s2 s3 s4
  exact bodyPost_ret (v := .tuple #[.slice none 0 0, .agg #[.int .i64 1, .string ⟨#[]⟩, .string ⟨#[]⟩, .int .i64 0, .slice none 0 0]]) (by simp [results, Tryz.results8, go_sem, s0, s1, s2, s3, s4]) rfl (res_bad (Ns.nil _) hfz)
set_option maxHeartbeats 4000000 in
theorem rApply_m (v : Value) (l : List Nd) (kk : Int) (p d : Bs) (vv ow : Int) (tt : Bool) (w : World) (hv : Ns w v l) (hs : Sp l) (hp : p.length ≤ 1000000) (h : right l = true) (hm : may ⟨kk, p, d, vv, ow, tt⟩ = false) :
    Calls Tryz.prog 8 #[v, .agg #[.int .i64 kk, .string (B p), .string (B d), .int .i64 vv, .int .i64 ow, .bool tt]] w (ApR w [] (.bad 1)) := by
  obtain ⟨ao, cap, rfl⟩ := hv.shape
  have hb0 := Bx.made w kk p d vv ow tt
  have hf0 : Fp Non w ((w.alloc (.cells #[.int .i64 kk, .string (B p), .string (B d), .int .i64 vv, .int .i64 ow, .bool tt] TO_)).alloc (.cells #[.int .i64 0, .string ⟨#[]⟩, .string ⟨#[]⟩, .int .i64 0, .slice none 0 0] TR)) := (fp_alloc w _).then (fp_alloc _ _)
  have HF0 := Lib.hid (Kp.and (fun W' f => hb0.non f : Kp (Bx w kk p d vv ow tt) ((w.alloc (.cells #[.int .i64 kk, .string (B p), .string (B d), .int .i64 vv, .int .i64 ow, .bool tt] TO_)).alloc (.cells #[.int .i64 0, .string ⟨#[]⟩, .string ⟨#[]⟩, .int .i64 0, .slice none 0 0] TR))) (Kp.and (Kp.fp hf0) (Kp.ns (hv.non hf0))))
  have hrr := fun w' hv => rRightN_g (.slice ao l.length cap) l w' hv hs
  have hmy := fun w' => rMay_c ⟨kk, p, d, vv, ow, tt⟩ w' hp
  unfold opV strV at hmy
  simp only at hmy
  rw [h] at hrr
  rw [hm] at hmy
  obtain ⟨n, hnn⟩ : ∃ n, n = l.length := ⟨_, rfl⟩
  rw [← hnn] at HF0 hrr ⊢
  have HRR := Lib.hid hrr
  have HMY := Lib.hid hmy
  clear hb0 hf0 hrr hmy hv hs hp h hnn hm
  go_enter Tryz.func8, Tryz.ntmps8
  go_wp2_with fail
  refine (HRR.out _ HF0.out.now.2.2).mono ?_
  rintro e w1 ⟨rfl, hf⟩
  have K1 := Lib.hid (HF0.out.later hf)
  clear hf
  obtain ⟨o0, o1, o2, o3, o4, o5⟩ := box6 K1.out.now.1.op
  go_wp2_with fail
  refine (HMY.out _).mono ?_
  rintro e w2 ⟨rfl, hf⟩
  have K2 := Lib.hid (K1.out.later hf)
  clear hf o0 o1 o2 o3 o4 o5
  have hbr := K2.out.now.1
  have hfw := K2.out.now.2.1
  obtain ⟨r0, r1, r2, r3, r4⟩ := hbr.r
  have z0 := hbr.fz 0; have z1 := hbr.fz 1; have z2 := hbr.fz 2; have z3 := hbr.fz 3; have z4 := hbr.fz 4
  have HE := Lib.hid (And.intro hbr.res hfw)
  clear hbr hfw
  go_wp2
  have hw9 := set5 HE.out.1 (.int .i64 1) (.string ⟨#[]⟩) (.string ⟨#[]⟩) (.int .i64 0) (.slice none 0 0)
  have hfz := fp5 (S := Non) HE.out.2 (b := w.heap.size + 1) (.inr (by omega)) (.int .i64 1) (.string ⟨#[]⟩) (.string ⟨#[]⟩) (.int .i64 0) (.slice none 0 0)
  have hfk := fp5k HE.out.1 (.int .i64 1) (.string ⟨#[]⟩) (.string ⟨#[]⟩) (.int .i64 0) (.slice none 0 0)
  generalize (((((World.setCell _ _ _).setCell _ _).setCell _ _).setCell _ _).setCell _ _) = wz at *
  have s0 := cell_of_row _ (w.heap.size + 1) 0 _ _ _ hw9
  have s1 := cell_of_row _ (w.heap.size + 1) 1 _ _ _ hw9
  have s2 := cell_of_row _ (w.heap.size + 1) 2 _ _ _ hw9
  have s3 := cell_of_row _ (w.heap.size + 1) 3 _ _ _ hw9
  have s4 := cell_of_row _ (w.heap.size + 1) 4 _ _ _ hw9
  simp only [zA, zB, zC] at s0 s1 s2 s3 s4
  exact bodyPost_ret (v := .tuple #[.slice none 0 0, .agg #[.int .i64 1, .string ⟨#[]⟩, .string ⟨#[]⟩, .int .i64 0, .slice none 0 0]]) (by simp [results, Tryz.results8, go_sem, s0, s1, s2, s3, s4]) rfl (res_bad (Ns.nil _) hfz)
set_option maxHeartbeats 4000000 in
theorem rApply_1 (v : Value) (l : List Nd) (p d : Bs) (vv ow : Int) (tt : Bool) (w : World) (hv : Ns w v l) (hT : Tr l) (hm : may ⟨1, p, d, vv, ow, tt⟩ = true) :
    Calls Tryz.prog 8 #[v, .agg #[.int .i64 1, .string (B p), .string (B d), .int .i64 vv, .int .i64 ow, .bool tt]] w (ApR w (create l ⟨1, p, d, vv, ow, tt⟩).1 (create l ⟨1, p, d, vv, ow, tt⟩).2) := by
  have hp : p.length ≤ 1000000 := may_len2 hm
  have hs := (tr_few hT).2
  have h := right_true hT.tree
  obtain ⟨ao, cap, rfl⟩ := hv.shape
  have hb0 := Bx.made w 1 p d vv ow tt
  have hf0 : Fp Non w ((w.alloc (.cells #[.int .i64 1, .string (B p), .string (B d), .int .i64 vv, .int .i64 ow, .bool tt] TO_)).alloc (.cells #[.int .i64 0, .string ⟨#[]⟩, .string ⟨#[]⟩, .int .i64 0, .slice none 0 0] TR)) := (fp_alloc w _).then (fp_alloc _ _)
  have HF0 := Lib.hid (Kp.and (fun W' f => hb0.non f : Kp (Bx w 1 p d vv ow tt) ((w.alloc (.cells #[.int .i64 1, .string (B p), .string (B d), .int .i64 vv, .int .i64 ow, .bool tt] TO_)).alloc (.cells #[.int .i64 0, .string ⟨#[]⟩, .string ⟨#[]⟩, .int .i64 0, .slice none 0 0] TR))) (Kp.and (Kp.fp hf0) (Kp.ns (hv.non hf0))))
  have hrr := fun w' hv => rRightN_g (.slice ao l.length cap) l w' hv hs
  have hmy := fun w' => rMay_c ⟨1, p, d, vv, ow, tt⟩ w' hp
  unfold opV strV at hmy
  simp only at hmy
  rw [h] at hrr
  rw [hm] at hmy
  have hcr := fun w' hv => rCreate_c (.slice ao l.length cap) l ⟨1, p, d, vv, ow, tt⟩ w' hv hT hm rfl
  unfold opV strV at hcr
  simp only at hcr
  obtain ⟨L, hL⟩ : ∃ L, (create l ⟨1, p, d, vv, ow, tt⟩).1 = L := ⟨_, rfl⟩
  obtain ⟨R, hR⟩ : ∃ R, (create l ⟨1, p, d, vv, ow, tt⟩).2 = R := ⟨_, rfl⟩
  rw [hL, hR] at hcr ⊢
  obtain ⟨re, rp, rd, rv, rn⟩ := R
  obtain ⟨n, hnn⟩ : ∃ n, n = l.length := ⟨_, rfl⟩
  rw [← hnn] at HF0 hrr hcr ⊢
  have HRR := Lib.hid hrr
  have HMY := Lib.hid hmy
  have HCR := Lib.hid hcr
  have HVV := Lib.hid hv
  have HTP := Lib.hid hT.tree.pos
  clear hb0 hf0 hrr hmy hv hs hp h hnn hm hcr hL hR
  go_enter Tryz.func8, Tryz.ntmps8
  go_wp2_with fail
  refine (HRR.out _ HF0.out.now.2.2).mono ?_
  rintro e w1 ⟨rfl, hf⟩
  have K1 := Lib.hid (HF0.out.later hf)
  clear hf
  obtain ⟨o0, o1, o2, o3, o4, o5⟩ := box6 K1.out.now.1.op
  go_wp2_with fail
  refine (HMY.out _).mono ?_
  rintro e w2 ⟨rfl, hf⟩
  have K2 := Lib.hid (K1.out.later hf)
  clear hf o0 o1 o2 o3 o4 o5
  obtain ⟨o0, o1, o2, o3, o4, o5⟩ := box6 K2.out.now.1.op
  go_wp2_with fail
  refine (HCR.out _ K2.out.now.2.2).mono ?_
  rintro e w3 hA
  obtain ⟨v3, n3, rfl, hn3, ho3, hb3⟩ := hA.ex
  have HB3 : Hid (∀ k, v3.ownBlock = some k → k ≠ w.heap.size + 1) := fun k hk e => by
    rcases hb3 k hk with h | h
    · rw [own_blk _ _ _ l.length cap] at h
      have := HVV.out.blk HTP.out k h; omega
    · have := K2.out.now.1.sz; omega
  obtain ⟨na, nc, rfl⟩ := ho3.shape
  obtain ⟨nl, hnl⟩ : ∃ nl, nl = rn.length := ⟨_, rfl⟩
  simp only at ho3 ⊢
  rw [← hnl] at ho3 ⊢
  have HO := Lib.hid (And.intro hn3 (And.intro ho3 K2.out.now.1.sz))
  have K3 := Lib.hid (K2.out.later hA.fp)
  unfold strV
  clear hA hn3 ho3 hnl hb3 o0 o1 o2 o3 o4 o5
  have hbr := K3.out.now.1
  have hfw := K3.out.now.2.1
  obtain ⟨r0, r1, r2, r3, r4⟩ := hbr.r
  have z0 := hbr.fz 0; have z1 := hbr.fz 1; have z2 := hbr.fz 2; have z3 := hbr.fz 3; have z4 := hbr.fz 4
  have HE := Lib.hid (And.intro hbr.res hfw)
  clear hbr hfw
  go_wp2
  have hw9 := set5 HE.out.1 (.int .i64 re) (.string (B rp)) (.string (B rd)) (.int .i64 rv) (.slice na nl nc)
  have hfz := fp5 (S := Non) HE.out.2 (b := w.heap.size + 1) (.inr (by omega)) (.int .i64 re) (.string (B rp)) (.string (B rd)) (.int .i64 rv) (.slice na nl nc)
  have hfk := fp5k HE.out.1 (.int .i64 re) (.string (B rp)) (.string (B rd)) (.int .i64 rv) (.slice na nl nc)
  generalize (((((World.setCell _ _ _).setCell _ _).setCell _ _).setCell _ _).setCell _ _) = wz at *
  have s0 := cell_of_row _ (w.heap.size + 1) 0 _ _ _ hw9
  have s1 := cell_of_row _ (w.heap.size + 1) 1 _ _ _ hw9
  have s2 := cell_of_row _ (w.heap.size + 1) 2 _ _ _ hw9
  have s3 := cell_of_row _ (w.heap.size + 1) 3 _ _ _ hw9
  have s4 := cell_of_row _ (w.heap.size + 1) 4 _ _ _ hw9
  simp only [zA, zB, zC] at s0 s1 s2 s3 s4
  exact bodyPost_ret (v := .tuple #[v3, .agg #[.int .i64 re, .string (B rp), .string (B rd), .int .i64 rv, .slice na nl nc]]) (by simp [results, Tryz.results8, go_sem, s0, s1, s2, s3, s4]) rfl (⟨⟨v3, .slice na nl nc, rfl, HO.out.1.keep hfk (fun k hk e => HB3.out k hk e), Own.low ⟨hfk.owns HO.out.2.1.1 (fun k hk e => by have e : k = w.heap.size + 1 := e; have h1 := (HO.out.2.1.1.lt k hk).1; have h2 := HO.out.2.2; omega), HO.out.2.1.2⟩ (by have h2 := HO.out.2.2; omega)⟩, hfz⟩)
theorem rApply_c (v : Value) (l : List Nd) (o : Opn) (w : World) (hv : Ns w v l) (hs : Sp l) (hp : o.path.length ≤ 1000000) :
    Calls Tryz.prog 8 #[v, opV o] w (ApR w (apply l o).1 (apply l o).2) := by
  cases hr : right l with
  | false =>
    rw [apply_no (fun h => by rw [hr] at h; cases h.1)]
    obtain ⟨kk, p, d, vv, ow, tt⟩ := o
    exact rApply_r v l kk p d vv ow tt w hv hs hp hr
  | true =>
    have hT := ((right_iff l).1 hr).tr
    cases hm : may o with
    | false =>
      rw [apply_no (fun h => by rw [hm] at h; cases h.2)]
      obtain ⟨kk, p, d, vv, ow, tt⟩ := o
      exact rApply_m v l kk p d vv ow tt w hv hs hp hr hm
    | true =>
      rw [apply_yes hT hm]
      have hk := may_kind hm
      obtain ⟨kk, p, d, vv, ow, tt⟩ := o
      simp only at hk
      rcases hk with rfl | rfl | rfl | rfl | rfl | rfl | rfl
      · have e : perform l ⟨1, p, d, vv, ow, tt⟩ = create l ⟨1, p, d, vv, ow, tt⟩ := by unfold perform; rw [if_pos rfl]
        rw [e]; exact rApply_1 v l p d vv ow tt w hv hT hm
      · exact rApply_2 v l p d vv ow tt w hv hT hm
      · exact rApply_3 v l p d vv ow tt w hv hT hm
      · exact rApply_4 v l p d vv ow tt w hv hT hm
      · exact rApply_5 v l p d vv ow tt w hv hT hm
      · exact rApply_6 v l p d vv ow tt w hv hT hm
      · exact rApply_7 v l p d vv ow tt w hv hT hm
end Go.Proofs.YthaepjeikicigaaGreatDoor
