/- A text of this proof. -/
import Derived.Test.YtphoglepiegeiaaGreatDoorZBBG
set_option linter.unusedSimpArgs false
set_option linter.unusedVariables false
namespace Go.Proofs.YtphoglepiegeiaaGreatDoor
set_option maxRecDepth 20000
open Go.RowKit Pm
attribute [local irreducible] wpStill
set_option maxHeartbeats 40000000 in
theorem MultiOne_c (v : Value) (l : List Nd) (a b : Opn) (w : World) (hv : Ns w v l) (hn : l.length ≤ 140737488355328) (ht : Tab w) :
  Calls Tryz.prog 12 #[v, opV a, opV b] w fun e w' => e = .returned (.bool true) ∧ Fp Non w w' := by
 obtain ⟨al, cap, rfl⟩ := hv.shape
 obtain ⟨ak, ap, ad, av, ao, at_⟩ := a
 obtain ⟨bk, bp, bd, bv, bo, bt⟩ := b
 unfold opV strV
 simp only
 obtain ⟨n, hnn⟩ : ∃ n, n = l.length := ⟨_, rfl⟩
 have HX := Lib.hid hnn
 rw [← hnn] at hv ⊢
 clear hnn
 have f0 := fp_alloc w (.cells #[.int .i64 ak, .string (B ap), .string (B ad), .int .i64 av, .int .i64 ao, .bool at_] TO_)
 have f1 := fp_alloc (w.alloc (.cells #[.int .i64 ak, .string (B ap), .string (B ad), .int .i64 av, .int .i64 ao, .bool at_] TO_)) (.cells #[.int .i64 bk, .string (B bp), .string (B bd), .int .i64 bv, .int .i64 bo, .bool bt] TO_)
 have r0 := f1.heap (heap_alloc_new w (.cells #[.int .i64 ak, .string (B ap), .string (B ad), .int .i64 av, .int .i64 ao, .bool at_] TO_)) id
 have r1 := heap_alloc_new (w.alloc (.cells #[.int .i64 ak, .string (B ap), .string (B ad), .int .i64 av, .int .i64 ao, .bool at_] TO_)) (.cells #[.int .i64 bk, .string (B bp), .string (B bd), .int .i64 bv, .int .i64 bo, .bool bt] TO_)
 rw [show (w.alloc (.cells #[.int .i64 ak, .string (B ap), .string (B ad), .int .i64 av, .int .i64 ao, .bool at_] TO_)).heap.size = w.heap.size + 1 from by simp] at r1
 have K0 := Lib.hid (Kp.and (Kp.row r0) (Kp.and (Kp.row r1) (Kp.and (Kp.fp (f0.then f1)) (Kp.and (Kp.ns (hv.non (f0.then f1))) (Kp.tab (ht.non (f0.then f1)))))))
 have HN := Lib.hid hn
 clear hv ht hn f0 f1 r0 r1
 go_enter Tryz.func12, Tryz.ntmps12
 go_upto_region 1 with (fail)
 generalize ((w.alloc (.cells #[.int .i64 ak, .string (B ap), .string (B ad), .int .i64 av, .int .i64 ao, .bool at_] TO_)).alloc (.cells #[.int .i64 bk, .string (B bp), .string (B bd), .int .i64 bv, .int .i64 bo, .bool bt] TO_)) = w0 at *
 go_wp2_with fail
 refine (head8_c _ K0.out.now.2.2.2.2).mono ?_
 rintro e w1 ⟨rfl, hf⟩
 have K1 := Lib.hid (K0.out.later hf)
 clear K0
 clear hf
 have hgr := Great_c _ l w1 K1.out.now.2.2.2.1 HN.out
 have HGR := Lib.hid hgr
 clear hgr
 go_wp2_with fail
 refine HGR.out.mono ?_
 rintro e w2 ⟨g, rfl, hg, hf⟩
 have K2 := Lib.hid (K1.out.later hf)
 clear K1
 have HG := Lib.hid hg
 clear hf hg HGR HN
 obtain ⟨a0, a1, a2, a3, a4, a5⟩ := box6 K2.out.now.1
 obtain ⟨b0, b1, b2, b3, b4, b5⟩ := box6 K2.out.now.2.1
 cases g with
 | true =>
  go_wp2
  go_ret
  exact ⟨rfl, K2.out.now.2.2.1⟩
 | false => ?_
 have hlf := HG.out (by first | rfl | trivial)
 have HLF := Lib.hid hlf
 clear hlf HG
 have hgo := GreatOp_c ⟨ak, ap, ad, av, ao, at_⟩ w2
 unfold opV strV at hgo
 simp only at hgo
 have HGO := Lib.hid hgo
 clear hgo
 go_wp2_with fail
 refine HGO.out.mono ?_
 rintro e w3 ⟨g, rfl, hg, hf⟩
 clear HGO
 have K3 := Lib.hid (K2.out.later hf)
 clear K2
 clear a0 a1 a2 a3 a4 a5 b0 b1 b2 b3 b4 b5
 obtain ⟨a0, a1, a2, a3, a4, a5⟩ := box6 K3.out.now.1
 obtain ⟨b0, b1, b2, b3, b4, b5⟩ := box6 K3.out.now.2.1
 have HG := Lib.hid hg
 clear hf hg
 cases g with
 | true =>
  go_wp2
  go_ret
  exact ⟨rfl, K3.out.now.2.2.1⟩
 | false => ?_
 have HPa := Lib.hid (HG.out (by first | rfl | trivial)).1
 clear HG
 have hgo := GreatOp_c ⟨bk, bp, bd, bv, bo, bt⟩ w3
 unfold opV strV at hgo
 simp only at hgo
 have HGO := Lib.hid hgo
 clear hgo
 go_wp2_with fail
 refine HGO.out.mono ?_
 rintro e w4 ⟨g, rfl, hg, hf⟩
 clear HGO
 have K4 := Lib.hid (K3.out.later hf)
 clear K3
 clear a0 a1 a2 a3 a4 a5 b0 b1 b2 b3 b4 b5
 obtain ⟨a0, a1, a2, a3, a4, a5⟩ := box6 K4.out.now.1
 obtain ⟨b0, b1, b2, b3, b4, b5⟩ := box6 K4.out.now.2.1
 have HG := Lib.hid hg
 clear hf hg
 cases g with
 | true =>
  go_wp2
  go_ret
  exact ⟨rfl, K4.out.now.2.2.1⟩
 | false => ?_
 have HPb := Lib.hid (HG.out (by first | rfl | trivial)).1
 clear HG
 have hrr := rRightN_g _ l w4 K4.out.now.2.2.2.1 (few_sp HLF.out)
 obtain ⟨br, hbr⟩ : ∃ b, Pm.right l = b := ⟨_, rfl⟩
 rw [hbr] at hrr
 have HRR := Lib.hid hrr
 have HBR := Lib.hid hbr
 clear hrr hbr
 go_wp2_with fail
 refine HRR.out.mono ?_
 rintro e w5 ⟨rfl, hf⟩
 clear HRR
 have K5 := Lib.hid (K4.out.later hf)
 clear K4
 clear a0 a1 a2 a3 a4 a5 b0 b1 b2 b3 b4 b5
 obtain ⟨a0, a1, a2, a3, a4, a5⟩ := box6 K5.out.now.1
 obtain ⟨b0, b1, b2, b3, b4, b5⟩ := box6 K5.out.now.2.1
 clear hf
 cases br with
 | false =>
  go_wp2
  go_ret
  exact ⟨rfl, K5.out.now.2.2.1⟩
 | true => ?_
 have hmy := rMay_c ⟨ak, ap, ad, av, ao, at_⟩ w5 (by have := HPa.out; simp only at this ⊢; omega)
 obtain ⟨bm, hbm⟩ : ∃ b, may ⟨ak, ap, ad, av, ao, at_⟩ = b := ⟨_, rfl⟩
 rw [hbm] at hmy
 unfold opV strV at hmy
 simp only at hmy
 have HMY := Lib.hid hmy
 have HMa := Lib.hid hbm
 clear hmy hbm
 go_wp2_with fail
 refine HMY.out.mono ?_
 rintro e w6 ⟨rfl, hf⟩
 clear HMY
 have K6 := Lib.hid (K5.out.later hf)
 clear K5
 clear a0 a1 a2 a3 a4 a5 b0 b1 b2 b3 b4 b5
 obtain ⟨a0, a1, a2, a3, a4, a5⟩ := box6 K6.out.now.1
 obtain ⟨b0, b1, b2, b3, b4, b5⟩ := box6 K6.out.now.2.1
 clear hf
 cases bm with
 | false =>
  go_wp2
  go_ret
  exact ⟨rfl, K6.out.now.2.2.1⟩
 | true => ?_
 have hmy := rMay_c ⟨bk, bp, bd, bv, bo, bt⟩ w6 (by have := HPb.out; simp only at this ⊢; omega)
 obtain ⟨bm, hbm⟩ : ∃ b, may ⟨bk, bp, bd, bv, bo, bt⟩ = b := ⟨_, rfl⟩
 rw [hbm] at hmy
 unfold opV strV at hmy
 simp only at hmy
 have HMY := Lib.hid hmy
 have HMb := Lib.hid hbm
 clear hmy hbm
 go_wp2_with fail
 refine HMY.out.mono ?_
 rintro e w7 ⟨rfl, hf⟩
 clear HMY
 have K7 := Lib.hid (K6.out.later hf)
 clear K6
 clear a0 a1 a2 a3 a4 a5 b0 b1 b2 b3 b4 b5
 obtain ⟨a0, a1, a2, a3, a4, a5⟩ := box6 K7.out.now.1
 obtain ⟨b0, b1, b2, b3, b4, b5⟩ := box6 K7.out.now.2.1
 clear hf
 cases bm with
 | false =>
  go_wp2
  go_ret
  exact ⟨rfl, K7.out.now.2.2.1⟩
 | true => ?_
 have hT := ((right_iff l).1 HBR.out).tr
 obtain ⟨x, r, hxa⟩ : ∃ x r, apply l ⟨ak, ap, ad, av, ao, at_⟩ = (x, r) := ⟨_, _, rfl⟩
 obtain ⟨hse, hTx⟩ := apply_same hT HMa.out hxa
 obtain ⟨y, s, hyb⟩ : ∃ y s, apply x ⟨bk, bp, bd, bv, bo, bt⟩ = (y, s) := ⟨_, _, rfl⟩
 obtain ⟨hsf, hTy⟩ := apply_same hTx HMb.out hyb
 have HP := Lib.hid (And.intro hxa (And.intro hyb (And.intro hse (And.intro hsf (And.intro hT (And.intro hTx hTy))))))
 clear hT hxa hse hTx hyb hsf hTy
 have hap := hd_ap HP.out.1 _ w7 K7.out.now.2.2.2.1 (few_sp HLF.out) (by have := HPa.out; simp only at this ⊢; omega) K7.out.now.2.2.2.2
 unfold opV strV at hap
 simp only at hap
 have HAP := Lib.hid hap
 clear hap
 go_wp2_with fail
 refine HAP.out.mono ?_
 rintro e w8 ⟨⟨xv, xnv, rfl, hx, ho⟩, hf⟩
 clear HAP
 obtain ⟨xa, xc, rfl⟩ := hx.shape
 obtain ⟨xna, xnc, rfl⟩ := ho.shape
 obtain ⟨xn, hnx⟩ : ∃ q, q = x.length := ⟨_, rfl⟩
 obtain ⟨xm, hnm⟩ : ∃ q, q = r.names.length := ⟨_, rfl⟩
 rw [← hnx] at hx ⊢
 rw [← hnm] at ho ⊢
 have HNx := Lib.hid hnm
 have f0 := fp_alloc w8 (.cells #[.int .i64 r.err, .string (B r.path), .string (B r.data), .int .i64 r.ver, .slice xna xm xnc] TR)
 have r0 := heap_alloc_new w8 (.cells #[.int .i64 r.err, .string (B r.path), .string (B r.data), .int .i64 r.ver, .slice xna xm xnc] TR)
 have K8 := Lib.hid (Kp.and (Kp.row r0) (Kp.and (Kp.ns (hx.non f0)) (Kp.and (Kp.ownM (ho.grown' f0)) (K7.out.later (hf.then f0)))))
 clear K7
 clear a0 a1 a2 a3 a4 a5 b0 b1 b2 b3 b4 b5
 clear hf f0 r0 hx ho hnx hnm
 go_upto_region 5 with (fail)
 generalize (World.alloc w8 _) = w8' at *
 generalize w8.heap.size = b9 at *
 obtain ⟨a0, a1, a2, a3, a4, a5⟩ := box6 K8.out.now.2.2.2.1
 obtain ⟨b0, b1, b2, b3, b4, b5⟩ := box6 K8.out.now.2.2.2.2.1
 by_cases hre : r.err = 0
 ·have re1 : (r.err != 0) = false := by simp [hre]
  have re2 : (r.err == 0) = true := beq_iff_eq.2 hre
  have re3 : (r.err = 0) = True := eq_true hre
  have re4 : ((0 : Int) != r.err) = false := by simp [hre]
  have re5 : ((0 : Int) == r.err) = true := by simp [hre]
  have re6 : ((0 : Int) = r.err) = True := eq_true hre.symm
  have Hre := Lib.hid hre
  clear hre
  go_wp2_with fail
  refine (mAp1 _ l ak ap ad av ao at_ w8' K8.out.now.2.2.2.2.2.2.1 (few_sp HLF.out) (Nat.le_trans HPa.out (by decide)) K8.out.now.2.2.2.2.2.2.2).mono ?_
  rintro e w9 ⟨⟨Wm, hm⟩, hf⟩
  obtain ⟨zv, zr, rfl, hz, hq⟩ := mAp_ok hm HBR.out (by unfold mayL; simp [HMa.out]) (.succ (rs := []) .zero (by simp) HP.out.1 Hre.out)
  clear hm
  obtain ⟨za, zc, rfl⟩ := hz.shape
  obtain ⟨zn, hzn⟩ : ∃ q, q = x.length := ⟨_, rfl⟩
  rw [← hzn] at hz ⊢
  clear hzn
  obtain ⟨g, o, rc, rfl, hc⟩ := hq.at (by simp)
  rw [show ([] ++ [r] : List Res).length = 1 from rfl] at hq ⊢
  obtain ⟨na, nc, hra⟩ := hc 0 (by simp)
  have hra : ReAt w9 g (o + 0) r na nc := hra
  clear hc
  have f0 := fp_alloc w9 (.cells #[.int .i64 0, .int .i64 0, .slice (some ⟨g, o, none⟩) 1 rc] TDN)
  have r0 := heap_alloc_new w9 (.cells #[.int .i64 0, .int .i64 0, .slice (some ⟨g, o, none⟩) 1 rc] TDN)
  have K9 := Lib.hid (Kp.and (Kp.row r0) (Kp.and (Kp.ns (hz.non f0)) (Kp.and (show Kp (fun W' => ReAt W' g (o + 0) r na nc) _ from fun W f => (hra.non f0).non f) (K8.out.later (hf.then f0)))))
  clear K8
  clear a0 a1 a2 a3 a4 a5 b0 b1 b2 b3 b4 b5
  clear hf f0 r0
  go_upto_region 6 with (fail)
  generalize (World.alloc w9 _) = w9' at *
  generalize w9.heap.size = b11 at *
  obtain ⟨a0, a1, a2, a3, a4, a5⟩ := box6 K9.out.now.2.2.2.2.2.2.1
  obtain ⟨b0, b1, b2, b3, b4, b5⟩ := box6 K9.out.now.2.2.2.2.2.2.2.1
  clear hz hq hra
  have Hq := Lib.hid (fun W (f : Fp Non w9' W) => (And.intro (box3 (K9.out.later f).now.1).1 (And.intro (box3 (K9.out.later f).now.1).2.2 (And.intro (box5 (K9.out.later f).now.2.2.2.1).1 (And.intro (box5 (K9.out.later f).now.2.2.2.1).2.1 (And.intro (box5 (K9.out.later f).now.2.2.2.1).2.2.1 (And.intro (box5 (K9.out.later f).now.2.2.2.1).2.2.2.1 (And.intro (box5 (K9.out.later f).now.2.2.2.1).2.2.2.2 (And.intro (show ReAt W g o r na nc from (K9.out.later f).now.2.2.1).c0 (And.intro (show ReAt W g o r na nc from (K9.out.later f).now.2.2.1).c1 (And.intro (show ReAt W g o r na nc from (K9.out.later f).now.2.2.1).c2 (And.intro (show ReAt W g o r na nc from (K9.out.later f).now.2.2.1).c3 (show ReAt W g o r na nc from (K9.out.later f).now.2.2.1).c4))))))))))))
  have HWD := Lib.hid (Fp.refl Non w9').drew
  clear a0 a1 a2 a3 a4 a5 b0 b1 b2 b3 b4 b5
  go_wp2_with fail
  refine wp_region_held_drew (S := (fun w' => w'.cell? ⟨b11, 0, none⟩ = some (.int .i64 0) ∧ w'.cell? ⟨b11, 2, none⟩ = some (.slice (some ⟨g, o, none⟩) 1 rc) ∧ w'.cell? ⟨b9, 0, none⟩ = some (.int .i64 r.err) ∧ w'.cell? ⟨b9, 1, none⟩ = some (.string (B r.path)) ∧ w'.cell? ⟨b9, 2, none⟩ = some (.string (B r.data)) ∧ w'.cell? ⟨b9, 3, none⟩ = some (.int .i64 r.ver) ∧ w'.cell? ⟨b9, 4, none⟩ = some (.slice xna xm xnc) ∧ w'.cell? ⟨g, o, none⟩ = some (.int .i64 r.err) ∧ w'.cell? ⟨g, o + 1, none⟩ = some (.string (B r.path)) ∧ w'.cell? ⟨g, o + 2, none⟩ = some (.string (B r.data)) ∧ w'.cell? ⟨g, o + 3, none⟩ = some (.int .i64 r.ver) ∧ w'.cell? ⟨g, o + 4, none⟩ = some (.slice na r.names.length nc))) (by kernel_rfl) ?_ (fun hH => ?_)
  ·exact Hq.out _ HWD.out
  generalize w9'.drew = wd at *
  refine tk 0 hH ?_
  refine tk 1 hH ?_
  refine tk 2 hH ?_
  refine tk 3 hH ?_
  refine tk 4 hH ?_
  refine tk 5 hH ?_
  refine tk 6 hH ?_
  refine tk 7 hH ?_
  have hsm := rSameN_c _ _ x x wd (K9.out.later HWD.out).now.2.2.2.2.1 (K9.out.later HWD.out).now.2.1 (tr_few HP.out.2.2.2.2.2.1).1 (tr_few HP.out.2.2.2.2.2.1).1
  rw [decide_eq_true rfl] at hsm
  have HSM := Lib.hid hsm
  clear hsm
  refine rY 8 fun K hK => ?_
  go_simp
  go_at_call 34
  refine HSM.out.mono ?_
  rintro e w10 ⟨rfl, hf⟩
  have HWE := Lib.hid (HWD.out.then hf)
  clear hf HSM
  go_wp2_with fail
  refine hK.out _ _ (Hq.out _ HWE.out) (fun hH => ?_)
  clear hK K
  try simp only [zz]
  refine tk 9 hH ?_
  refine tk 10 hH ?_
  refine tk 11 hH ?_
  refine tk 12 hH ?_
  refine tk 13 hH ?_
  refine tk 14 hH ?_
  refine tk 15 hH ?_
  refine tk 16 hH ?_
  refine tk 17 hH ?_
  refine tk 18 hH ?_
  refine tk 19 hH ?_
  refine tk 20 hH ?_
  refine tk 21 hH ?_
  refine tk 22 hH ?_
  refine tk 23 hH ?_
  refine tk 24 hH ?_
  refine tk 25 hH ?_
  have hso : ∀ W, Fp Non w10 W → Calls Tryz.prog 70 #[.slice na r.names.length nc, .slice xna xm xnc] W fun e w' => e = .returned (.bool true) ∧ Fp Non W w' := fun W f => by
   obtain ⟨lo, ho⟩ := (ReAt.own (K9.out.later HWE.out).now.2.2.1)
   exact same_ownM (ho.grown' f) (Own.grown' (K9.out.later HWE.out).now.2.2.2.2.2.1 f)
  have hsn := rSameOne_c r.err r.path r.data r.ver (.slice na r.names.length nc) (.slice xna xm xnc) w10 hso
  have HSN := Lib.hid hsn
  clear hso hsn
  refine rY 26 fun K hK => ?_
  go_simp
  go_at_call 24
  refine HSN.out.mono ?_
  rintro e w10b ⟨rfl, hf⟩
  have HWG := Lib.hid ((HWE.out).then hf)
  clear hf HSN
  go_wp2_with fail
  refine hK.out _ _ (Hq.out _ HWG.out) (fun hH => ?_)
  clear hK K
  try simp only [zz]
  refine tk 27 hH ?_
  refine tk 28 hH ?_
  refine tk 29 hH ?_
  refine tk 30 hH ?_
  refine dn ?_
  clear hH Hq
  have K10 := Lib.hid (K9.out.later HWG.out)
  clear K9
  clear HWD HWE HWG
  obtain ⟨a0, a1, a2, a3, a4, a5⟩ := box6 K10.out.now.2.2.2.2.2.2.1
  obtain ⟨b0, b1, b2, b3, b4, b5⟩ := box6 K10.out.now.2.2.2.2.2.2.2.1
  have hap := hd_ap HP.out.2.1 _ w10b K10.out.now.2.2.2.2.1 (tr_few HP.out.2.2.2.2.2.1).2 (by have := HPb.out; simp only at this ⊢; omega) K10.out.now.2.2.2.2.2.2.2.2.2.2
  unfold opV strV at hap
  simp only at hap
  have HAP := Lib.hid hap
  clear hap
  go_wp2_with fail
  refine HAP.out.mono ?_
  rintro e w11 ⟨⟨yv, ynv, rfl, hx, ho⟩, hf⟩
  clear HAP
  obtain ⟨ya, yc, rfl⟩ := hx.shape
  obtain ⟨yna, ync, rfl⟩ := ho.shape
  obtain ⟨yn, hnx⟩ : ∃ q, q = y.length := ⟨_, rfl⟩
  obtain ⟨ym, hnm⟩ : ∃ q, q = s.names.length := ⟨_, rfl⟩
  rw [← hnx] at hx ⊢
  rw [← hnm] at ho ⊢
  have HNy := Lib.hid hnm
  have f0 := fp_alloc w11 (.cells #[.int .i64 s.err, .string (B s.path), .string (B s.data), .int .i64 s.ver, .slice yna ym ync] TR)
  have r0 := heap_alloc_new w11 (.cells #[.int .i64 s.err, .string (B s.path), .string (B s.data), .int .i64 s.ver, .slice yna ym ync] TR)
  have K11 := Lib.hid (Kp.and (Kp.row r0) (Kp.and (Kp.ns (hx.non f0)) (Kp.and (Kp.ownM (ho.grown' f0)) (K10.out.later (hf.then f0)))))
  clear K10
  clear a0 a1 a2 a3 a4 a5 b0 b1 b2 b3 b4 b5
  clear hf f0 r0 hx ho hnx hnm
  go_upto_region 9 with (fail)
  generalize (World.alloc w11 _) = w11' at *
  generalize w11.heap.size = b13 at *
  obtain ⟨a0, a1, a2, a3, a4, a5⟩ := box6 K11.out.now.2.2.2.2.2.2.2.2.2.1
  obtain ⟨b0, b1, b2, b3, b4, b5⟩ := box6 K11.out.now.2.2.2.2.2.2.2.2.2.2.1
  by_cases hse : s.err = 0
  ·have se1 : (s.err != 0) = false := by simp [hse]
   have se2 : (s.err == 0) = true := beq_iff_eq.2 hse
   have se3 : (s.err = 0) = True := eq_true hse
   have se4 : ((0 : Int) != s.err) = false := by simp [hse]
   have se5 : ((0 : Int) == s.err) = true := by simp [hse]
   have se6 : ((0 : Int) = s.err) = True := eq_true hse.symm
   have Hse := Lib.hid hse
   clear hse
   go_wp2_with fail
   refine (mAp2 _ l ak ap ad av ao at_ bk bp bd bv bo bt w11' K11.out.now.2.2.2.2.2.2.2.2.2.2.2.2.1 (few_sp HLF.out) (Nat.le_trans HPa.out (by decide)) (Nat.le_trans HPb.out (by decide)) K11.out.now.2.2.2.2.2.2.2.2.2.2.2.2.2).mono ?_
   rintro e w12 ⟨⟨Wm, hm⟩, hf⟩
   obtain ⟨zv, zr, rfl, hz, hq⟩ := mAp_ok hm HBR.out (by unfold mayL; simp [HMa.out, HMb.out]) (.succ (rs := [r]) (.succ (rs := []) .zero (by simp) HP.out.1 Hre.out) (by simp) HP.out.2.1 Hse.out)
   clear hm
   obtain ⟨za, zc, rfl⟩ := hz.shape
   obtain ⟨zn, hzn⟩ : ∃ q, q = y.length := ⟨_, rfl⟩
   rw [← hzn] at hz ⊢
   clear hzn
   obtain ⟨g, o, rc, rfl, hc⟩ := hq.at (by simp)
   rw [show ([r] ++ [s] : List Res).length = 2 from rfl] at hq ⊢
   obtain ⟨na, nc, hra⟩ := hc 1 (by simp)
   have hra : ReAt w12 g (o + 5) s na nc := hra
   clear hc
   have f0 := fp_alloc w12 (.cells #[.int .i64 0, .int .i64 0, .slice (some ⟨g, o, none⟩) 2 rc] TDN)
   have r0 := heap_alloc_new w12 (.cells #[.int .i64 0, .int .i64 0, .slice (some ⟨g, o, none⟩) 2 rc] TDN)
   have K12 := Lib.hid (Kp.and (Kp.row r0) (Kp.and (Kp.ns (hz.non f0)) (Kp.and (show Kp (fun W' => ReAt W' g (o + 5) s na nc) _ from fun W f => (hra.non f0).non f) (K11.out.later (hf.then f0)))))
   clear K11
   clear a0 a1 a2 a3 a4 a5 b0 b1 b2 b3 b4 b5
   clear hf f0 r0
   go_upto_region 10 with (fail)
   generalize (World.alloc w12 _) = w12' at *
   generalize w12.heap.size = b15 at *
   obtain ⟨a0, a1, a2, a3, a4, a5⟩ := box6 K12.out.now.2.2.2.2.2.2.2.2.2.2.2.2.1
   obtain ⟨b0, b1, b2, b3, b4, b5⟩ := box6 K12.out.now.2.2.2.2.2.2.2.2.2.2.2.2.2.1
   clear hz hq hra
   obtain ⟨r0, r1, r2, r3, r4⟩ := box5 K12.out.now.2.2.2.2.2.2.2.2.2.1
   obtain ⟨s0, s1, s2, s3, s4⟩ := box5 K12.out.now.2.2.2.1
   go_upto_region 14 with (fail)
   clear r0 r1 r2 r3 r4 s0 s1 s2 s3 s4
   have Hq := Lib.hid (fun W (f : Fp Non w12' W) => (And.intro (box3 (K12.out.later f).now.1).1 (And.intro (box3 (K12.out.later f).now.1).2.2 (And.intro (box5 (K12.out.later f).now.2.2.2.1).1 (And.intro (box5 (K12.out.later f).now.2.2.2.1).2.1 (And.intro (box5 (K12.out.later f).now.2.2.2.1).2.2.1 (And.intro (box5 (K12.out.later f).now.2.2.2.1).2.2.2.1 (And.intro (box5 (K12.out.later f).now.2.2.2.1).2.2.2.2 (And.intro (show ReAt W g (o + 5) s na nc from (K12.out.later f).now.2.2.1).c0 (And.intro (show ReAt W g (o + 5) s na nc from (K12.out.later f).now.2.2.1).c1 (And.intro (show ReAt W g (o + 5) s na nc from (K12.out.later f).now.2.2.1).c2 (And.intro (show ReAt W g (o + 5) s na nc from (K12.out.later f).now.2.2.1).c3 (show ReAt W g (o + 5) s na nc from (K12.out.later f).now.2.2.1).c4))))))))))))
   have HWD := Lib.hid (Fp.refl Non w12').drew
   clear a0 a1 a2 a3 a4 a5 b0 b1 b2 b3 b4 b5
   go_wp2_with fail
   refine wp_region_held_drew (S := (fun w' => w'.cell? ⟨b15, 0, none⟩ = some (.int .i64 0) ∧ w'.cell? ⟨b15, 2, none⟩ = some (.slice (some ⟨g, o, none⟩) 2 rc) ∧ w'.cell? ⟨b13, 0, none⟩ = some (.int .i64 s.err) ∧ w'.cell? ⟨b13, 1, none⟩ = some (.string (B s.path)) ∧ w'.cell? ⟨b13, 2, none⟩ = some (.string (B s.data)) ∧ w'.cell? ⟨b13, 3, none⟩ = some (.int .i64 s.ver) ∧ w'.cell? ⟨b13, 4, none⟩ = some (.slice yna ym ync) ∧ w'.cell? ⟨g, o + 5, none⟩ = some (.int .i64 s.err) ∧ w'.cell? ⟨g, o + 6, none⟩ = some (.string (B s.path)) ∧ w'.cell? ⟨g, o + 7, none⟩ = some (.string (B s.data)) ∧ w'.cell? ⟨g, o + 8, none⟩ = some (.int .i64 s.ver) ∧ w'.cell? ⟨g, o + 9, none⟩ = some (.slice na s.names.length nc))) (by kernel_rfl) ?_ (fun hH => ?_)
   ·exact Hq.out _ HWD.out
   generalize w12'.drew = wd at *
   refine tk 0 hH ?_
   refine tk 1 hH ?_
   refine tk 2 hH ?_
   refine tk 3 hH ?_
   refine tk 4 hH ?_
   refine tk 5 hH ?_
   refine tk 6 hH ?_
   refine tk 7 hH ?_
   refine tk 8 hH ?_
   have hsm := rSameN_c _ _ y y wd (K12.out.later HWD.out).now.2.1 (K12.out.later HWD.out).now.2.2.2.2.1 (tr_few HP.out.2.2.2.2.2.2).1 (tr_few HP.out.2.2.2.2.2.2).1
   rw [decide_eq_true rfl] at hsm
   have HSM := Lib.hid hsm
   clear hsm
   refine rY 9 fun K hK => ?_
   go_simp
   go_at_call 34
   refine HSM.out.mono ?_
   rintro e w13 ⟨rfl, hf⟩
   have HWE := Lib.hid (HWD.out.then hf)
   clear hf HSM
   go_wp2_with fail
   refine hK.out _ _ (Hq.out _ HWE.out) (fun hH => ?_)
   clear hK K
   try simp only [zz]
   refine tk 10 hH ?_
   refine tk 11 hH ?_
   refine tk 12 hH ?_
   refine tk 13 hH ?_
   refine tk 14 hH ?_
   refine tk 15 hH ?_
   refine tk 16 hH ?_
   refine tk 17 hH ?_
   refine tk 18 hH ?_
   refine tk 19 hH ?_
   refine tk 20 hH ?_
   refine tk 21 hH ?_
   refine tk 22 hH ?_
   have hso : ∀ W, Fp Non w13 W → Calls Tryz.prog 70 #[.slice na s.names.length nc, .slice yna ym ync] W fun e w' => e = .returned (.bool true) ∧ Fp Non W w' := fun W f => by
    obtain ⟨lo, ho⟩ := (ReAt.own (K12.out.later HWE.out).now.2.2.1)
    exact same_ownM (ho.grown' f) (Own.grown' (K12.out.later HWE.out).now.2.2.2.2.2.1 f)
   have hsn := rSameOne_c s.err s.path s.data s.ver (.slice na s.names.length nc) (.slice yna ym ync) w13 hso
   have HSN := Lib.hid hsn
   clear hso hsn
   refine rY 23 fun K hK => ?_
   go_simp
   go_at_call 24
   refine HSN.out.mono ?_
   rintro e w14 ⟨rfl, hf⟩
   have HWG := Lib.hid ((HWE.out).then hf)
   clear hf HSN
   go_wp2_with fail
   refine hK.out _ _ (Hq.out _ HWG.out) (fun hH => ?_)
   clear hK K
   try simp only [zz]
   refine tk 24 hH ?_
   refine rY 25 fun K hK => ?_
   go_simp
   refine hK.out _ _ (Hq.out _ HWG.out) (fun hH => ?_)
   clear hK K
   try simp only [zz]
   refine dn ?_
   clear hH Hq
   have K13 := Lib.hid (K12.out.later HWG.out)
   clear K12
   clear HWD HWE HWG
   go_wp2
   go_ret
   exact ⟨rfl, K13.out.now.2.2.2.2.2.2.2.2.2.2.2.2.2.2.1⟩
  have se1 : (s.err != 0) = true := by simpa using hse
  have se2 : (s.err == 0) = false := beq_eq_false_iff_ne.2 hse
  have se3 : (s.err = 0) = False := eq_false hse
  have Hse := Lib.hid hse
  clear hse
  go_wp2_with fail
  refine (mAp2 _ l ak ap ad av ao at_ bk bp bd bv bo bt w11' K11.out.now.2.2.2.2.2.2.2.2.2.2.2.2.1 (few_sp HLF.out) (Nat.le_trans HPa.out (by decide)) (Nat.le_trans HPb.out (by decide)) K11.out.now.2.2.2.2.2.2.2.2.2.2.2.2.2).mono ?_
  rintro e w12 ⟨⟨Wm, hm⟩, hf⟩
  have he := mAp_err hm HBR.out (by unfold mayL; simp [HMa.out, HMb.out]) (.succ (rs := []) .zero (by simp) HP.out.1 Hre.out) (by simp) (by show (apply x ⟨bk, bp, bd, bv, bo, bt⟩).2.err ≠ 0; rw [HP.out.2.1]; exact Hse.out)
  rw [show (apply x ([⟨ak, ap, ad, av, ao, at_⟩, ⟨bk, bp, bd, bv, bo, bt⟩] : List Opn)[1]).2.err = s.err from by show (apply x ⟨bk, bp, bd, bv, bo, bt⟩).2.err = _; rw [HP.out.2.1]] at he
  subst he
  clear hm
  have f0 := fp_alloc w12 (.cells #[.int .i64 s.err, .int .i64 ((1 : Nat) : Int), .slice none 0 0] TDN)
  have r0 := heap_alloc_new w12 (.cells #[.int .i64 s.err, .int .i64 ((1 : Nat) : Int), .slice none 0 0] TDN)
  have K12 := Lib.hid (Kp.and (Kp.row r0) (K11.out.later (hf.then f0)))
  clear K11
  clear a0 a1 a2 a3 a4 a5 b0 b1 b2 b3 b4 b5
  clear hf f0 r0
  go_upto_region 10 with (fail)
  generalize (World.alloc w12 _) = w12' at *
  generalize w12.heap.size = b15 at *
  obtain ⟨a0, a1, a2, a3, a4, a5⟩ := box6 K12.out.now.2.2.2.2.2.2.2.2.2.2.1
  obtain ⟨b0, b1, b2, b3, b4, b5⟩ := box6 K12.out.now.2.2.2.2.2.2.2.2.2.2.2.1
  obtain ⟨r0, r1, r2, r3, r4⟩ := box5 K12.out.now.2.2.2.2.2.2.2.1
  obtain ⟨d0, d1, d2⟩ := box3 K12.out.now.1
  obtain ⟨s0, s1, s2, s3, s4⟩ := box5 K12.out.now.2.1
  have hsm := fun W (f : Fp Non w12' W) => rSameN_c _ _ l l W (K12.out.later f).now.2.2.2.2.2.2.2.2.2.2.2.2.2.1 (K12.out.later f).now.2.2.2.2.2.2.2.2.2.2.2.2.2.1 (by have := HLF.out.1; omega) (by have := HLF.out.1; omega)
  rw [decide_eq_true rfl] at hsm
  have HSM := Lib.hid hsm
  clear hsm
  go_wp2_with fail
  refine (HSM.out _ (Fp.refl _ _)).mono ?_
  rintro e w13 ⟨rfl, hf⟩
  have F := Lib.hid ((K12.out.now.2.2.2.2.2.2.2.2.2.2.2.2.1).then hf)
  clear hf
  go_wp2
  go_ret
  exact ⟨rfl, F.out⟩
 have re1 : (r.err != 0) = true := by simpa using hre
 have re2 : (r.err == 0) = false := beq_eq_false_iff_ne.2 hre
 have re3 : (r.err = 0) = False := eq_false hre
 have Hre := Lib.hid hre
 clear hre
 go_wp2_with fail
 refine (mAp1 _ l ak ap ad av ao at_ w8' K8.out.now.2.2.2.2.2.2.1 (few_sp HLF.out) (Nat.le_trans HPa.out (by decide)) K8.out.now.2.2.2.2.2.2.2).mono ?_
 rintro e w9 ⟨⟨Wm, hm⟩, hf⟩
 have he := mAp_err hm HBR.out (by unfold mayL; simp [HMa.out]) .zero (by simp) (by show (apply l ⟨ak, ap, ad, av, ao, at_⟩).2.err ≠ 0; rw [HP.out.1]; exact Hre.out)
 rw [show (apply l ([⟨ak, ap, ad, av, ao, at_⟩] : List Opn)[0]).2.err = r.err from by show (apply l ⟨ak, ap, ad, av, ao, at_⟩).2.err = _; rw [HP.out.1]] at he
 subst he
 clear hm
 have f0 := fp_alloc w9 (.cells #[.int .i64 r.err, .int .i64 ((0 : Nat) : Int), .slice none 0 0] TDN)
 have r0 := heap_alloc_new w9 (.cells #[.int .i64 r.err, .int .i64 ((0 : Nat) : Int), .slice none 0 0] TDN)
 have K9 := Lib.hid (Kp.and (Kp.row r0) (K8.out.later (hf.then f0)))
 clear K8
 clear a0 a1 a2 a3 a4 a5 b0 b1 b2 b3 b4 b5
 clear hf f0 r0
 go_upto_region 6 with (fail)
 generalize (World.alloc w9 _) = w9' at *
 generalize w9.heap.size = b11 at *
 obtain ⟨a0, a1, a2, a3, a4, a5⟩ := box6 K9.out.now.2.2.2.2.1
 obtain ⟨b0, b1, b2, b3, b4, b5⟩ := box6 K9.out.now.2.2.2.2.2.1
 have Hq := Lib.hid (fun W (f : Fp Non w9' W) => (And.intro (box3 (K9.out.later f).now.1).1 (box5 (K9.out.later f).now.2.1).1))
 have HWD := Lib.hid (Fp.refl Non w9').drew
 clear a0 a1 a2 a3 a4 a5 b0 b1 b2 b3 b4 b5
 go_wp2_with fail
 refine wp_region_held_drew (S := (fun w' => w'.cell? ⟨b11, 0, none⟩ = some (.int .i64 r.err) ∧ w'.cell? ⟨b9, 0, none⟩ = some (.int .i64 r.err))) (by kernel_rfl) ?_ (fun hH => ?_)
 ·exact Hq.out _ HWD.out
 generalize w9'.drew = wd at *
 refine tk 0 hH ?_
 refine tk 1 hH ?_
 refine tk 2 hH ?_
 refine tk 3 hH ?_
 refine tk 4 hH ?_
 refine tk 5 hH ?_
 refine tk 6 hH ?_
 refine tk 7 hH ?_
 have hsm := rSameN_c _ _ x l wd (K9.out.later HWD.out).now.2.2.1 (K9.out.later HWD.out).now.2.2.2.2.2.2.2.1 (tr_few HP.out.2.2.2.2.2.1).1 (by have := HLF.out.1; omega)
 rw [decide_eq_true (HP.out.2.2.1 Hre.out).1] at hsm
 have HSM := Lib.hid hsm
 clear hsm
 refine rY 8 fun K hK => ?_
 go_simp
 go_at_call 34
 refine HSM.out.mono ?_
 rintro e w10 ⟨rfl, hf⟩
 have HWE := Lib.hid (HWD.out.then hf)
 clear hf HSM
 go_wp2_with fail
 refine hK.out _ _ (Hq.out _ HWE.out) (fun hH => ?_)
 clear hK K
 try simp only [zz]
 refine tk 9 hH ?_
 refine tk 10 hH ?_
 refine tk 11 hH ?_
 refine tk 12 hH ?_
 refine tk 13 hH ?_
 refine tk 14 hH ?_
 refine tk 15 hH ?_
 refine sk 16 hH ?_
 refine sk 17 hH ?_
 refine sk 18 hH ?_
 refine sk 19 hH ?_
 refine sk 20 hH ?_
 refine sk 21 hH ?_
 refine sk 22 hH ?_
 refine sk 23 hH ?_
 refine sk 24 hH ?_
 refine sk 25 hH ?_
 refine sk 26 hH ?_
 refine sk 27 hH ?_
 refine sk 28 hH ?_
 refine tk 29 hH ?_
 refine tk 30 hH ?_
 refine dn ?_
 clear hH Hq
 have K10 := Lib.hid (K9.out.later HWE.out)
 clear K9
 clear HWD HWE
 obtain ⟨a0, a1, a2, a3, a4, a5⟩ := box6 K10.out.now.2.2.2.2.1
 obtain ⟨b0, b1, b2, b3, b4, b5⟩ := box6 K10.out.now.2.2.2.2.2.1
 have hap := hd_ap HP.out.2.1 _ w10 K10.out.now.2.2.1 (tr_few HP.out.2.2.2.2.2.1).2 (by have := HPb.out; simp only at this ⊢; omega) K10.out.now.2.2.2.2.2.2.2.2
 unfold opV strV at hap
 simp only at hap
 have HAP := Lib.hid hap
 clear hap
 go_wp2_with fail
 refine HAP.out.mono ?_
 rintro e w11 ⟨⟨yv, ynv, rfl, hx, ho⟩, hf⟩
 clear HAP
 obtain ⟨ya, yc, rfl⟩ := hx.shape
 obtain ⟨yna, ync, rfl⟩ := ho.shape
 obtain ⟨yn, hnx⟩ : ∃ q, q = y.length := ⟨_, rfl⟩
 obtain ⟨ym, hnm⟩ : ∃ q, q = s.names.length := ⟨_, rfl⟩
 rw [← hnx] at hx ⊢
 rw [← hnm] at ho ⊢
 have HNy := Lib.hid hnm
 have f0 := fp_alloc w11 (.cells #[.int .i64 s.err, .string (B s.path), .string (B s.data), .int .i64 s.ver, .slice yna ym ync] TR)
 have r0 := heap_alloc_new w11 (.cells #[.int .i64 s.err, .string (B s.path), .string (B s.data), .int .i64 s.ver, .slice yna ym ync] TR)
 have K11 := Lib.hid (Kp.and (Kp.row r0) (Kp.and (Kp.ns (hx.non f0)) (Kp.and (Kp.ownM (ho.grown' f0)) (K10.out.later (hf.then f0)))))
 clear K10
 clear a0 a1 a2 a3 a4 a5 b0 b1 b2 b3 b4 b5
 clear hf f0 r0 hx ho hnx hnm
 go_upto_region 9 with (fail)
 generalize (World.alloc w11 _) = w11' at *
 generalize w11.heap.size = b13 at *
 obtain ⟨a0, a1, a2, a3, a4, a5⟩ := box6 K11.out.now.2.2.2.2.2.2.2.1
 obtain ⟨b0, b1, b2, b3, b4, b5⟩ := box6 K11.out.now.2.2.2.2.2.2.2.2.1
 go_wp2_with fail
 refine (mAp2 _ l ak ap ad av ao at_ bk bp bd bv bo bt w11' K11.out.now.2.2.2.2.2.2.2.2.2.2.1 (few_sp HLF.out) (Nat.le_trans HPa.out (by decide)) (Nat.le_trans HPb.out (by decide)) K11.out.now.2.2.2.2.2.2.2.2.2.2.2).mono ?_
 rintro e w12 ⟨⟨Wm, hm⟩, hf⟩
 have he := mAp_err hm HBR.out (by unfold mayL; simp [HMa.out, HMb.out]) .zero (by simp) (by show (apply l ⟨ak, ap, ad, av, ao, at_⟩).2.err ≠ 0; rw [HP.out.1]; exact Hre.out)
 rw [show (apply l ([⟨ak, ap, ad, av, ao, at_⟩, ⟨bk, bp, bd, bv, bo, bt⟩] : List Opn)[0]).2.err = r.err from by show (apply l ⟨ak, ap, ad, av, ao, at_⟩).2.err = _; rw [HP.out.1]] at he
 subst he
 clear hm
 have f0 := fp_alloc w12 (.cells #[.int .i64 r.err, .int .i64 ((0 : Nat) : Int), .slice none 0 0] TDN)
 have r0 := heap_alloc_new w12 (.cells #[.int .i64 r.err, .int .i64 ((0 : Nat) : Int), .slice none 0 0] TDN)
 have K12 := Lib.hid (Kp.and (Kp.row r0) (K11.out.later (hf.then f0)))
 clear K11
 clear a0 a1 a2 a3 a4 a5 b0 b1 b2 b3 b4 b5
 clear hf f0 r0
 go_upto_region 10 with (fail)
 generalize (World.alloc w12 _) = w12' at *
 generalize w12.heap.size = b15 at *
 obtain ⟨a0, a1, a2, a3, a4, a5⟩ := box6 K12.out.now.2.2.2.2.2.2.2.2.1
 obtain ⟨b0, b1, b2, b3, b4, b5⟩ := box6 K12.out.now.2.2.2.2.2.2.2.2.2.1
 obtain ⟨r0, r1, r2, r3, r4⟩ := box5 K12.out.now.2.2.2.2.2.1
 obtain ⟨d0, d1, d2⟩ := box3 K12.out.now.1
 go_wp2
 go_ret
 exact ⟨rfl, K12.out.now.2.2.2.2.2.2.2.2.2.2.1⟩
end Go.Proofs.YtphoglepiegeiaaGreatDoor
