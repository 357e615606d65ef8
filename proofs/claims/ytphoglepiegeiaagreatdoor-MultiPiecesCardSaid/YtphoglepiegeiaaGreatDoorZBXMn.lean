/- A text of this proof. -/
import Derived.Test.YtphoglepiegeiaaGreatDoorZBXMh
set_option linter.unusedSimpArgs false
set_option linter.unusedVariables false
namespace Go.Proofs.YtphoglepiegeiaaGreatDoor
set_option maxRecDepth 20000
open Go.RowKit Pm
attribute [local irreducible] wpStill
set_option maxHeartbeats 40000000 in
theorem MultiPieces_c (v lv : Value) (t : List Nd) (l : List Opn) (w : World) (hv : Ns w v t) (hl : Ops w lv l) (hn : t.length ≤ 140737488355328) (ht : Tab w) :
  Calls Tryz.prog 13 #[v, lv] w fun e w' => e = .returned (.bool true) ∧ Fp Non w w' := by
 obtain ⟨ta, tc, rfl⟩ := hv.shape
 obtain ⟨al, cl, rfl⟩ := hl.shape
 obtain ⟨n, hnn⟩ : ∃ n, n = t.length := ⟨_, rfl⟩
 obtain ⟨z, hzz⟩ : ∃ z, z = l.length := ⟨_, rfl⟩
 have HX := Lib.hid (And.intro hnn hzz)
 rw [← hnn] at hv ⊢
 rw [← hzz] at hl ⊢
 clear hnn hzz
 have HN := Lib.hid hn
 have K0 := Lib.hid (Kp.and (Kp.fp (Fp.refl Non w)) (Kp.and (Kp.ns hv) (Kp.and (Kp.ops hl) (Kp.tab ht))))
 clear hv hl hn ht
 go_enter Tryz.func13, Tryz.ntmps13
 go_wp2_with fail
 refine (head8_c _ K0.out.now.2.2.2).mono ?_
 rintro e w1 ⟨rfl, hf⟩
 have K1 := Lib.hid (K0.out.later hf)
 clear K0
 clear hf
 have HGR := Lib.hid (Great_c _ t w1 K1.out.now.2.1 HN.out)
 go_wp2_with fail
 refine HGR.out.mono ?_
 rintro e w2 ⟨g, rfl, hg, hf⟩
 have K2 := Lib.hid (K1.out.later hf)
 clear K1
 have HG := Lib.hid hg
 clear hf hg HGR HN
 cases g with
 | true =>
  go_wp2
  go_ret
  exact ⟨rfl, K2.out.now.1⟩
 | false => ?_
 have HLF := Lib.hid (HG.out (by first | rfl | trivial))
 clear HG
 have HGO := Lib.hid (GreatOps_c _ l w2 K2.out.now.2.2.1)
 go_wp2_with fail
 refine HGO.out.mono ?_
 rintro e w3 ⟨g, rfl, hg, hf⟩
 have K3 := Lib.hid (K2.out.later hf)
 clear K2
 have HG := Lib.hid hg
 clear hf hg HGO
 cases g with
 | true =>
  go_wp2
  go_ret
  exact ⟨rfl, K3.out.now.1⟩
 | false => ?_
 have HOS := Lib.hid (HG.out (by first | rfl | trivial))
 clear HG
 have hn1 : n ≤ 1667 := by rw [HX.out.1]; exact HLF.out.1
 have hz1 : z ≤ 40 := by rw [HX.out.2]; exact HOS.out.1
 have hrr := rRightN_g _ t w3 K3.out.now.2.1 (few_sp HLF.out)
 obtain ⟨br, hbr⟩ : ∃ b, Pm.right t = b := ⟨_, rfl⟩
 rw [hbr] at hrr
 have HRR := Lib.hid hrr
 have HBR := Lib.hid hbr
 clear hrr hbr
 go_wp2_with fail
 refine HRR.out.mono ?_
 rintro e w4 ⟨rfl, hf⟩
 clear HRR
 have K4 := Lib.hid (K3.out.later hf)
 clear K3
 clear hf
 cases br with
 | false =>
  go_wp2
  go_ret
  exact ⟨rfl, K4.out.now.1⟩
 | true => ?_
 have hmy := rMayL_c _ l w4 K4.out.now.2.2.1 HOS.out.2 (by have := HOS.out.1; omega)
 obtain ⟨bm, hbm⟩ : ∃ b, mayL l = b := ⟨_, rfl⟩
 rw [hbm] at hmy
 have HMY := Lib.hid hmy
 have HM := Lib.hid hbm
 clear hmy hbm
 go_wp2_with fail
 refine HMY.out.mono ?_
 rintro e w5 ⟨rfl, hf⟩
 clear HMY
 have K5 := Lib.hid (K4.out.later hf)
 clear K4
 clear hf
 cases bm with
 | false =>
  go_wp2
  go_ret
  exact ⟨rfl, K5.out.now.1⟩
 | true => ?_
 by_cases hsum : 512 < n + z
 ·have q1 : ((512 : Int) < (n : Int) + (z : Int)) = True := eq_true (by omega)
  go_wp2
  go_ret
  exact ⟨rfl, K5.out.now.1⟩
 have q1 : ((512 : Int) < (n : Int) + (z : Int)) = False := eq_false (by omega)
 have HP := Lib.hid (show Tr t ∧ (∀ o ∈ l, may o = true) ∧ t.length + l.length ≤ 512 from ⟨((right_iff t).1 HBR.out).tr, ((mayL_iff l).1 HM.out).2, by have := HX.out.1; have := HX.out.2; omega⟩)
 have HPF := Lib.hid (parts_few l)
 have hmo := mOf_c _ l w5 K5.out.now.2.2.1 HOS.out.2 (by have := HOS.out.1; omega)
 have hpo : piecesOf l = piecesFrom 0 l := by unfold piecesOf; rw [if_pos HM.out]
 rw [hpo] at hmo
 have HMO := Lib.hid hmo
 clear hmo hpo hsum
 go_wp2_with fail
 refine HMO.out.mono ?_
 rintro e w6 ⟨⟨v6, rfl, ho⟩, hf⟩
 have hpc := ho.sg pcC_len
 obtain ⟨pa, pc, rfl⟩ := hpc.shape
 obtain ⟨np, hnp⟩ : ∃ q, q = (piecesFrom 0 l).length := ⟨_, rfl⟩
 rw [← hnp] at hpc ⊢
 have HNP := Lib.hid (show np = (piecesFrom 0 l).length ∧ np = (partsL l).length from ⟨hnp, by rw [hnp, pieces_len]⟩)
 have hnp1 : np ≤ 80 := by rw [hnp, pieces_len]; have := HPF.out; have := HOS.out.1; omega
 clear ho hnp HMO
 have K6 := Lib.hid (Kp.and (Kp.pcs hpc) (K5.out.later hf))
 clear K5
 clear hf hpc
 go_wp2_with fail
 go_loopw [7, 8] (fun c i wr => ∃ q : Nat, q ≤ z ∧ i = .int .i64 q ∧ ∃ m : Nat, m ≤ 80 ∧ c = .int .i64 m ∧ Hid (PcM l w6 q m wr)) (fun _ i _ => z - (RowKit.intOf i).toNat)
 case atStart => exact ⟨0, Nat.zero_le _, rfl, 0, by omega, rfl, ⟨Fp.refl _ _, by simp [partsL]⟩⟩
 obtain ⟨q, hq, rfl, m, hm, rfl, hR⟩ := hrel
 rename_i wr _
 by_cases hlt : q < z
 ·have hql : q < l.length := by rw [← HX.out.2]; exact hlt
  obtain ⟨g, og, cap', e9, hcell⟩ := (Ops.non K6.out.now.2.2.2.1 hR.out.fp).at (by have := HX.out.2; omega)
  injection e9 with e1 e2 e3
  subst e1 e3
  clear e2
  have hop := hcell q hql
  have hof := fun W => Of_f l[q] W (HOS.out.2 _ (List.getElem_mem hql))
  have hnx : ∀ W, Fp Non wr W → m + (partsOf l[q]).length ≤ 80 ∧ PcM l w6 (q + 1) (m + (partsOf l[q]).length) W := fun W f => by
   have e : m + (partsOf l[q]).length = (partsL (l.take (q + 1))).length := by rw [take_one hql, partsL_app, partsL_one, List.length_append, ← hR.out.eq]
   refine ⟨?_, hR.out.fp.then f, e⟩
   rw [e]
   have h1 := parts_few (l.take (q + 1))
   rw [List.length_take] at h1
   have := HOS.out.1; omega
  have hp2 := parts_le2 l[q]
  obtain ⟨x, hx⟩ : ∃ x, l[q] = x := ⟨_, rfl⟩
  rw [hx] at hop hof hnx hp2
  obtain ⟨mm, hmm⟩ : ∃ mm, mm = (partsOf x).length := ⟨_, rfl⟩
  rw [← hmm] at hnx hp2
  have HMM := Lib.hid hmm
  obtain ⟨kk, op, od, ov, oo, ot⟩ := x
  have c0 := hop.c0; have c1 := hop.c1; have c2 := hop.c2; have c3 := hop.c3; have c4 := hop.c4; have c5 := hop.c5
  unfold opV strV at hof
  unfold strV at c1 c2
  simp only at c0 c1 c2 c3 c4 c5 hof
  have HOF := Lib.hid hof
  have HNX := Lib.hid hnx
  have HL := Lib.hid hlt
  have q3 : ((q : Int) < (z : Int)) = True := eq_true (by omega)
  have q4 : (q < z) = True := eq_true hlt
  clear hcell hop hof hnx hx hlt hql hmm
  go_wp2_with fail
  refine (HOF.out _).mono ?_
  rintro e w7 ⟨⟨v7, rfl, hsg, _⟩, hf⟩
  obtain ⟨a7, c7, rfl⟩ := hsg.shape
  rw [← HMM.out]
  have hM := Lib.hid (HNX.out w7 hf)
  have hmb := hM.out.1
  clear hsg hf hR c0 c1 c2 c3 c4 c5
  have hj := HL.out
  go_wp2
  go_roundw
  case rel => exact ⟨q + 1, by have := HL.out; omega, by have := HL.out; go_num, m + mm, hmb, by go_num, hM.out.2⟩
  case measure => have := HL.out; simp [RowKit.intOf]; omega
 obtain rfl : z = q := by omega
 have q3 : ((z : Int) < (z : Int)) = False := eq_false (by omega)
 obtain rfl : np = m := by rw [hR.out.eq, HX.out.2, List.take_length, HNP.out.2]
 have HF7 := Lib.hid hR.out.fp
 clear hR hlt hq hm
 have K7 := Lib.hid (K6.out.later HF7.out)
 clear K6
 clear HF7
 go_wp2_with fail
 go_loopw [9] (fun i wr2 => ∃ q : Nat, q ≤ np ∧ i = .int .i64 q ∧ Hid (Fp Non wr wr2)) (fun i _ => np - (RowKit.intOf i).toNat)
 case atStart => exact ⟨0, Nat.zero_le _, rfl, Fp.refl _ _⟩
 obtain ⟨q, hq, rfl, hR⟩ := hrel
 rename World => w8
 by_cases hlt : q < np
 ·have hql : q < (piecesFrom 0 l).length := by rw [← HNP.out.1]; exact hlt
  obtain ⟨g, og, cap', e9, hcell⟩ := (Sg.non K7.out.now.1 hR.out).at (by rw [← HNP.out.1]; omega)
  injection e9 with e1 e2 e3
  subst e1 e3
  clear e2
  have hel := hcell q hql
  obtain ⟨hqz, hqm, hqp⟩ := piece_facts HP.out.2.1 hql
  rw [← HX.out.2] at hqz
  obtain ⟨y, hy⟩ : ∃ y, (piecesFrom 0 l)[q] = y := ⟨_, rfl⟩
  rw [hy] at hel hqz hqm hqp
  obtain ⟨qi, yk, yd, yp, ya, yv, yo, yt⟩ := y
  simp only at hqz hqm hqp
  have d0 := hel.get 0 _ rfl
  rw [Nat.add_zero] at d0
  have d1 := hel.get 1 _ rfl
  have d2 := hel.get 2 _ rfl
  have d3 := hel.get 3 _ rfl
  have d4 := hel.get 4 _ rfl
  have d5 := hel.get 5 _ rfl
  have d6 := hel.get 6 _ rfl
  have d7 := hel.get 7 _ rfl
  unfold strV at d2 d3 d4
  simp only at d0 d1 d2 d3 d4 d5 d6 d7
  have hmy := fun W => mayP_c ⟨yk, yd, yp, ya, yv, yo, yt⟩ W (by have := split_len ((mayP_iff _).1 hqm).2.1; omega)
  rw [hqm] at hmy
  have hpt : ptV ⟨yk, yd, yp, ya, yv, yo, yt⟩ = .agg #[.int .i64 yk, .string (B yd), .string (B yp), .string (B ya), .int .i64 yv, .int .i64 yo, .bool yt] := rfl
  rw [hpt] at hmy
  have HMY := Lib.hid hmy
  have q3 : ((q : Int) < (np : Int)) = True := eq_true (by omega)
  have q4 : (q < np) = True := eq_true hlt
  have qa : ((qi : Int) < 0) = False := eq_false (by omega)
  have qb : ((z : Int) ≤ (qi : Int)) = False := eq_false (by omega)
  have qc : (z ≤ qi) = False := eq_false (by omega)
  have HL := Lib.hid hlt
  have HR0 := Lib.hid hR.out
  clear hy hpt hmy hel hqm hqz hlt hR
  by_cases h0 : q = 0
  ·subst h0
   rw [Nat.zero_mul, Nat.add_zero] at d0 d1 d2 d3 d4 d5 d6 d7
   have HD := Lib.hid (And.intro d0 (And.intro d1 (And.intro d2 (And.intro d3 (And.intro d4 (And.intro d5 (And.intro d6 d7)))))))
   clear d0 d1 d2 d3 d4 d5 d6 d7 hcell hql hqp
   go_upto_region 13 with (fail)
   have Hq := Lib.hid (fun W (f : Fp Non w8 W) => (And.intro (f.cell HD.out.1 id) (And.intro (f.cell HD.out.2.1 id) (And.intro (f.cell HD.out.2.2.1 id) (And.intro (f.cell HD.out.2.2.2.1 id) (And.intro (f.cell HD.out.2.2.2.2.1 id) (And.intro (f.cell HD.out.2.2.2.2.2.1 id) (And.intro (f.cell HD.out.2.2.2.2.2.2.1 id) (f.cell HD.out.2.2.2.2.2.2.2 id)))))))))
   have HWD := Lib.hid (Fp.refl Non w8).drew
   go_wp2_with fail
   refine wp_region_held_drew (S := (fun w' => w'.cell? ⟨g, og, none⟩ = some (.int .i64 (qi : Int)) ∧ w'.cell? ⟨g, og + 1, none⟩ = some (.int .i64 yk) ∧ w'.cell? ⟨g, og + 2, none⟩ = some (.string (B yd)) ∧ w'.cell? ⟨g, og + 3, none⟩ = some (.string (B yp)) ∧ w'.cell? ⟨g, og + 4, none⟩ = some (.string (B ya)) ∧ w'.cell? ⟨g, og + 5, none⟩ = some (.int .i64 yv) ∧ w'.cell? ⟨g, og + 6, none⟩ = some (.int .i64 yo) ∧ w'.cell? ⟨g, og + 7, none⟩ = some (.bool yt))) (by kernel_rfl) ?_ (fun hH => ?_)
   ·exact Hq.out _ HWD.out
   generalize w8.drew = wd at *
   refine tk 0 hH ?_
   refine tk 1 hH ?_
   refine tk 2 hH ?_
   refine tk 3 hH ?_
   refine tk 4 hH ?_
   refine tk 5 hH ?_
   refine tk 6 hH ?_
   refine tk 7 hH ?_
   refine tk 8 hH ?_
   refine tk 9 hH ?_
   refine tk 10 hH ?_
   refine tk 11 hH ?_
   refine tk 12 hH ?_
   refine tk 13 hH ?_
   refine tk 14 hH ?_
   refine tk 15 hH ?_
   refine tk 16 hH ?_
   refine tk 17 hH ?_
   refine tk 18 hH ?_
   refine tk 19 hH ?_
   refine sk 20 hH ?_
   refine sk 21 hH ?_
   refine sk 22 hH ?_
   refine sk 23 hH ?_
   refine sk 24 hH ?_
   refine sk 25 hH ?_
   refine sk 26 hH ?_
   refine sk 27 hH ?_
   refine sk 28 hH ?_
   refine sk 29 hH ?_
   refine sk 30 hH ?_
   refine sk 31 hH ?_
   refine tk 32 hH ?_
   refine tk 33 hH ?_
   refine tk 34 hH ?_
   refine tk 35 hH ?_
   refine tk 36 hH ?_
   refine tk 37 hH ?_
   refine tk 38 hH ?_
   refine tk 39 hH ?_
   refine rY 40 fun K hK => ?_
   go_simp
   go_at_call 21
   refine (HMY.out _).mono ?_
   rintro e w9 ⟨rfl, hf⟩
   have HWE := Lib.hid (HWD.out.then hf)
   clear hf HMY
   go_wp2_with fail
   refine hK.out _ _ (Hq.out _ HWE.out) (fun hH => ?_)
   clear hK K
   try simp only [zz]
   refine tk 41 hH ?_
   refine tk 42 hH ?_
   refine dn ?_
   have hM := Lib.hid (HR0.out.then HWE.out)
   clear hH Hq HWE HWD HR0 HD
   have hj := HL.out
   go_wp2
   go_roundw
   case rel => exact ⟨1, by have := HL.out; omega, by have := HL.out; go_num, hM⟩
   case measure => have := HL.out; simp [RowKit.intOf]; omega
  obtain ⟨p, hqe⟩ : ∃ p, q = p + 1 := ⟨q - 1, by omega⟩
  obtain ⟨hpl, hle⟩ := hqp p hqe.symm
  have hep := (hcell p hpl).get 0 _ rfl
  rw [Nat.add_zero] at hep
  obtain ⟨pi, hpi⟩ : ∃ pi, (piecesFrom 0 l)[p].1 = pi := ⟨_, rfl⟩
  rw [hpi] at hep hle
  have HD := Lib.hid (And.intro d0 (And.intro d1 (And.intro d2 (And.intro d3 (And.intro d4 (And.intro d5 (And.intro d6 (And.intro d7 hep))))))))
  have qd : ((qi : Int) < (pi : Int)) = False := eq_false (by omega)
  have qe : (qi < pi) = False := eq_false (by omega)
  have qf : ((0 : Int) < (q : Int)) = True := eq_true (by omega)
  have qg : (0 < q) = True := eq_true (by omega)
  have qh : IntKind.i64.wrap ((q : Int) - 1) = (p : Int) := by rw [wrap_small (by omega) (by have := HL.out; omega)]; omega
  have qi1 : ((p : Int) < (np : Int)) = True := eq_true (by have := HL.out; omega)
  have qi2 : (p < np) = True := eq_true (by have := HL.out; omega)
  clear d0 d1 d2 d3 d4 d5 d6 d7 hcell hql hqp hpl hle hep hpi hqe h0
  go_upto_region 13 with (fail)
  have Hq := Lib.hid (fun W (f : Fp Non w8 W) => (And.intro (f.cell HD.out.1 id) (And.intro (f.cell HD.out.2.1 id) (And.intro (f.cell HD.out.2.2.1 id) (And.intro (f.cell HD.out.2.2.2.1 id) (And.intro (f.cell HD.out.2.2.2.2.1 id) (And.intro (f.cell HD.out.2.2.2.2.2.1 id) (And.intro (f.cell HD.out.2.2.2.2.2.2.1 id) (And.intro (f.cell HD.out.2.2.2.2.2.2.2.1 id) (f.cell HD.out.2.2.2.2.2.2.2.2 id))))))))))
  have HWD := Lib.hid (Fp.refl Non w8).drew
  go_wp2_with fail
  refine wp_region_held_drew (S := (fun w' => w'.cell? ⟨g, og + q * 8, none⟩ = some (.int .i64 (qi : Int)) ∧ w'.cell? ⟨g, og + q * 8 + 1, none⟩ = some (.int .i64 yk) ∧ w'.cell? ⟨g, og + q * 8 + 2, none⟩ = some (.string (B yd)) ∧ w'.cell? ⟨g, og + q * 8 + 3, none⟩ = some (.string (B yp)) ∧ w'.cell? ⟨g, og + q * 8 + 4, none⟩ = some (.string (B ya)) ∧ w'.cell? ⟨g, og + q * 8 + 5, none⟩ = some (.int .i64 yv) ∧ w'.cell? ⟨g, og + q * 8 + 6, none⟩ = some (.int .i64 yo) ∧ w'.cell? ⟨g, og + q * 8 + 7, none⟩ = some (.bool yt) ∧ w'.cell? ⟨g, og + p * 8, none⟩ = some (.int .i64 (pi : Int)))) (by kernel_rfl) ?_ (fun hH => ?_)
  ·exact Hq.out _ HWD.out
  generalize w8.drew = wd at *
  refine tk 0 hH ?_
  refine tk 1 hH ?_
  refine tk 2 hH ?_
  refine tk 3 hH ?_
  refine tk 4 hH ?_
  refine tk 5 hH ?_
  refine tk 6 hH ?_
  refine tk 7 hH ?_
  refine tk 8 hH ?_
  refine tk 9 hH ?_
  refine tk 10 hH ?_
  refine tk 11 hH ?_
  refine tk 12 hH ?_
  refine tk 13 hH ?_
  refine tk 14 hH ?_
  refine tk 15 hH ?_
  refine tk 16 hH ?_
  refine tk 17 hH ?_
  refine tk 18 hH ?_
  refine tk 19 hH ?_
  refine tk 20 hH ?_
  refine tk 21 hH ?_
  refine tk 22 hH ?_
  refine tk 23 hH ?_
  refine tk 24 hH ?_
  refine tk 25 hH ?_
  refine tk 26 hH ?_
  refine tk 27 hH ?_
  refine tk 28 hH ?_
  refine tk 29 hH ?_
  refine tk 30 hH ?_
  refine tk 31 hH ?_
  refine tk 32 hH ?_
  refine tk 33 hH ?_
  refine tk 34 hH ?_
  refine tk 35 hH ?_
  refine tk 36 hH ?_
  refine tk 37 hH ?_
  refine tk 38 hH ?_
  refine tk 39 hH ?_
  refine rY 40 fun K hK => ?_
  go_simp
  go_at_call 21
  refine (HMY.out _).mono ?_
  rintro e w9 ⟨rfl, hf⟩
  have HWE := Lib.hid (HWD.out.then hf)
  clear hf HMY
  go_wp2_with fail
  refine hK.out _ _ (Hq.out _ HWE.out) (fun hH => ?_)
  clear hK K
  try simp only [zz]
  refine tk 41 hH ?_
  refine tk 42 hH ?_
  refine dn ?_
  have hM := Lib.hid (HR0.out.then HWE.out)
  clear hH Hq HWE HWD HR0 HD
  have hj := HL.out
  go_wp2
  go_roundw
  case rel => exact ⟨q + 1, by have := HL.out; omega, by have := HL.out; go_num, hM⟩
  case measure => have := HL.out; simp [RowKit.intOf]; omega
 obtain rfl : np = q := by omega
 have q3 : ((np : Int) < (np : Int)) = False := eq_false (by omega)
 have HF8 := Lib.hid hR.out
 clear hR hlt hq
 have K8 := Lib.hid (K7.out.later HF8.out)
 clear K7
 clear HF8
 go_wp2_with fail
 refine (mApply_c _ _ t l w8 K8.out.now.2.2.1 (few_sp HLF.out) K8.out.now.2.2.2.1 HOS.out.2 (by have := HOS.out.1; omega) K8.out.now.2.2.2.2).mono ?_
 rintro e w9 hm
 have hf := hm.fp
 rcases hm.way with ⟨hno, _⟩ | ⟨_, _, a, rs, v', rv, hrun, rfl, hz, hq⟩ | ⟨_, _, i, now, rs, hrun, hi, h0, rfl⟩
 ·exact absurd ⟨HBR.out, HM.out⟩ hno
 ·obtain ⟨za, zc, rfl⟩ := hz.shape
  obtain ⟨zn, hzn⟩ : ∃ q, q = a.length := ⟨_, rfl⟩
  rw [← hzn] at hz ⊢
  obtain ⟨ra, rc, rfl⟩ := hq.shape
  obtain ⟨rn, hrn⟩ : ∃ q, q = rs.length := ⟨_, rfl⟩
  rw [← hrn] at hq ⊢
  have HRUN := Lib.hid hrun
  clear hzn hrn hq hrun
  have HLX := Lib.hid (show a.length ≤ 2000 from by have := (HRUN.out.tree HP.out.1 HP.out.2.1).2; have := HP.out.2.2; omega)
  have HKL := Lib.hid (keep_le a)
  have KLX := Lib.hid (show (keep a).nodes.length ≤ 1000000 ∧ (keep a).turns.length ≤ 1000000 by have := HKL.out; have := HLX.out; omega)
  clear HKL
  have f0 := fp_alloc w9 (.cells #[.int .i64 0, .int .i64 0, .slice ra rn rc] TDN)
  have r0 := heap_alloc_new w9 (.cells #[.int .i64 0, .int .i64 0, .slice ra rn rc] TDN)
  have K9 := Lib.hid (Kp.and (Kp.row r0) (Kp.and (Kp.ns (hz.non f0)) (K8.out.later (hf.then f0))))
  clear K8
  clear hf f0 r0 hm
  go_upto_region 16 with (fail)
  generalize (World.alloc w9 _) = w9' at *
  generalize w9.heap.size = b11 at *
  go_wp2_with fail
  refine (Keep_c _ t w9' K9.out.now.2.2.2.2.1 (by have := HLF.out.1; omega)).mono ?_
  rintro e w10 ⟨⟨vk, rfl, hs⟩, hf⟩
  obtain ⟨vn', vt', rfl, h1, h2⟩ := hs.ex
  obtain ⟨ua, ub, rfl⟩ := h1.shape
  obtain ⟨uc, ud, rfl⟩ := h2.shape
  obtain ⟨un, hln⟩ : ∃ q, q = (keep t).nodes.length := ⟨_, rfl⟩
  obtain ⟨um, hlm⟩ : ∃ q, q = (keep t).turns.length := ⟨_, rfl⟩
  rw [← hln, ← hlm] at hs ⊢
  clear h1 h2 hln hlm
  have K10 := Lib.hid (Kp.and (Kp.sto hs) (K9.out.later hf))
  clear K9
  clear hf hs
  have hal := mAll_c _ _ (keep t) (piecesFrom 0 l) w10 K10.out.now.1 HP.out.1.store (by have := keep_small HP.out.1 HP.out.2.2 HPF.out; rw [pieces_len]; exact this.1) (by have := keep_small HP.out.1 HP.out.2.2 HPF.out; rw [pieces_len]; exact this.2) K10.out.now.2.2.2.1 (piece_path HP.out.2.1) K10.out.now.2.2.2.2.2.2.2
  rw [pieces_snd] at hal
  have HAL := Lib.hid hal
  clear hal
  go_wp2_with fail
  refine HAL.out.mono ?_
  rintro e w11 hA
  have hf := hA.fp
  clear HAL
  obtain ⟨qr, hqr⟩ := pieces_all HP.out.1 HP.out.2.1 HP.out.2.2 HRUN.out
  obtain ⟨sv, rv2, rfl, hs, hr⟩ := mAl_ok hA hqr
  obtain ⟨r2a, r2c, rfl⟩ := hr.shape
  obtain ⟨vn', vt', rfl, h1, h2⟩ := hs.ex
  obtain ⟨xa, xb, rfl⟩ := h1.shape
  obtain ⟨xc, xd, rfl⟩ := h2.shape
  obtain ⟨xn, hln⟩ : ∃ q, q = (keep a).nodes.length := ⟨_, rfl⟩
  obtain ⟨xm, hlm⟩ : ∃ q, q = (keep a).turns.length := ⟨_, rfl⟩
  rw [← hln, ← hlm] at hs ⊢
  clear h1 h2 hln hlm
  have f0 := fp_alloc w11 (.cells #[.slice xa xn xb, .slice xc xm xd] TST)
  have r0 := heap_alloc_new w11 (.cells #[.slice xa xn xb, .slice xc xm xd] TST)
  have K11 := Lib.hid (Kp.and (Kp.row r0) (Kp.and (Kp.sto (hs.non f0)) (K10.out.later (hf.then f0))))
  clear K10
  clear hf f0 r0 hA hs hr hqr hz
  go_upto_region 17 with (fail)
  generalize (World.alloc w11 _) = w11' at *
  generalize w11.heap.size = b12 at *
  go_upto_region 17 with (fail)
  have Hq := Lib.hid (fun W (f : Fp Non w11' W) => (And.intro (box3 (K11.out.later f).now.2.2.2.1).1 (And.intro (boxP2 (K11.out.later f).now.1).1 (boxP2 (K11.out.later f).now.1).2)))
  have HWD := Lib.hid (Fp.refl Non w11').drew
  go_wp2_with fail
  refine wp_region_held_drew (S := (fun w' => w'.cell? ⟨b11, 0, none⟩ = some (.int .i64 0) ∧ w'.cell? ⟨b12, 0, none⟩ = some (.slice xa xn xb) ∧ w'.cell? ⟨b12, 1, none⟩ = some (.slice xc xm xd))) (by kernel_rfl) ?_ (fun hH => ?_)
  ·exact Hq.out _ HWD.out
  generalize w11'.drew = wd at *
  refine tk 0 hH ?_
  refine tk 1 hH ?_
  refine tk 2 hH ?_
  refine tk 3 hH ?_
  refine tk 4 hH ?_
  refine tk 5 hH ?_
  refine tk 6 hH ?_
  refine tk 7 hH ?_
  refine tk 8 hH ?_
  refine tk 9 hH ?_
  refine tk 10 hH ?_
  refine tk 11 hH ?_
  refine tk 12 hH ?_
  refine rY 13 fun K hK => ?_
  go_simp
  go_at_call 32
  refine (Keep_c _ a wd (K11.out.later HWD.out).now.2.2.2.2.1 (by have := HLX.out; omega)).mono ?_
  rintro e w12 ⟨⟨vy, rfl, hy⟩, hf⟩
  obtain ⟨yn, yt, rfl, h1, h2⟩ := hy.ex
  obtain ⟨ya, yb, rfl⟩ := h1.shape
  obtain ⟨yc, yd, rfl⟩ := h2.shape
  have HWE := Lib.hid (HWD.out.then hf)
  have HY := Lib.hid hy
  clear hf hy h1 h2
  go_wp2_with fail
  refine hK.out _ _ (Hq.out _ HWE.out) (fun hH => ?_)
  clear hK K
  try simp only [zz]
  have hss := rSameS_c _ _ (keep a) (keep a) w12 (K11.out.later HWE.out).now.2.1 HY.out KLX.out.1 KLX.out.1 KLX.out.2 KLX.out.2
  rw [decide_eq_true rfl] at hss
  have HSS := Lib.hid hss
  clear hss
  refine rY 14 fun K hK => ?_
  go_simp
  go_at_call 23
  refine HSS.out.mono ?_
  rintro e w13 ⟨rfl, hf⟩
  have HWG := Lib.hid (HWE.out.then hf)
  clear hf HSS
  go_wp2_with fail
  refine hK.out _ _ (Hq.out _ HWG.out) (fun hH => ?_)
  clear hK K
  try simp only [zz]
  refine tk 15 hH ?_
  refine tk 16 hH ?_
  refine dn ?_
  clear hH Hq
  have K12 := Lib.hid (K11.out.later HWG.out)
  clear K11
  clear HWD HWE HWG HY
  go_upto_region 19 with (fail)
  have Hq := Lib.hid (fun W (f : Fp Non w13 W) => (box3 (K12.out.later f).now.2.2.2.1).1)
  have HWD := Lib.hid (Fp.refl Non w13).drew
  go_wp2_with fail
  refine wp_region_held_drew (S := (fun w' => w'.cell? ⟨b11, 0, none⟩ = some (.int .i64 0))) (by kernel_rfl) ?_ (fun hH => ?_)
  ·exact Hq.out _ HWD.out
  generalize w13.drew = wg at *
  refine tk 0 hH ?_
  refine tk 1 hH ?_
  refine tk 2 hH ?_
  refine tk 3 hH ?_
  refine tk 4 hH ?_
  refine tk 5 hH ?_
  refine tk 6 hH ?_
  refine tk 7 hH ?_
  refine tk 8 hH ?_
  refine sk 9 hH ?_
  refine sk 10 hH ?_
  refine sk 11 hH ?_
  refine sk 12 hH ?_
  refine sk 13 hH ?_
  refine sk 14 hH ?_
  refine sk 15 hH ?_
  refine sk 16 hH ?_
  refine sk 17 hH ?_
  refine sk 18 hH ?_
  refine sk 19 hH ?_
  refine sk 20 hH ?_
  refine sk 21 hH ?_
  refine sk 22 hH ?_
  refine sk 23 hH ?_
  refine sk 24 hH ?_
  refine sk 25 hH ?_
  refine sk 26 hH ?_
  refine sk 27 hH ?_
  refine sk 28 hH ?_
  refine sk 29 hH ?_
  refine sk 30 hH ?_
  refine tk 31 hH ?_
  refine tk 32 hH ?_
  refine rY 33 fun K hK => ?_
  go_simp
  refine hK.out _ _ (Hq.out _ HWD.out) (fun hH => ?_)
  clear hK K
  try simp only [zz]
  refine dn ?_
  clear hH Hq
  have K13 := Lib.hid (K12.out.later HWD.out)
  clear K12
  clear HWD
  go_wp2
  go_ret
  exact ⟨rfl, K13.out.now.2.2.2.2.2.2.1⟩
 obtain ⟨j, x, qr, hj, hj', hqr, hej, hij⟩ := pieces_err HP.out.1 HP.out.2.1 HP.out.2.2 hrun hi h0
 obtain ⟨er, her⟩ : ∃ er, (apply now l[i]).2.err = er := ⟨_, rfl⟩
 rw [her] at hej h0 ⊢
 have HJ := Lib.hid (And.intro hj (And.intro hj' (And.intro hqr (And.intro hej hij))))
 have HE0 := Lib.hid h0
 clear hqr hej hij her hrun h0
 have HLX := Lib.hid (show t.length ≤ 2000 from by have := HLF.out.1; omega)
 have HKL := Lib.hid (keep_le t)
 have KLX := Lib.hid (show (keep t).nodes.length ≤ 1000000 ∧ (keep t).turns.length ≤ 1000000 by have := HKL.out; have := HLX.out; omega)
 clear HKL
 have f0 := fp_alloc w9 (.cells #[.int .i64 er, .int .i64 (i : Int), .slice none 0 0] TDN)
 have r0 := heap_alloc_new w9 (.cells #[.int .i64 er, .int .i64 (i : Int), .slice none 0 0] TDN)
 have K9 := Lib.hid (Kp.and (Kp.row r0) (K8.out.later (hf.then f0)))
 clear K8
 clear hf f0 r0 hm
 go_upto_region 16 with (fail)
 generalize (World.alloc w9 _) = w9' at *
 generalize w9.heap.size = b11 at *
 go_wp2_with fail
 refine (Keep_c _ t w9' K9.out.now.2.2.2.1 (by have := HLF.out.1; omega)).mono ?_
 rintro e w10 ⟨⟨vk, rfl, hs⟩, hf⟩
 obtain ⟨vn', vt', rfl, h1, h2⟩ := hs.ex
 obtain ⟨ua, ub, rfl⟩ := h1.shape
 obtain ⟨uc, ud, rfl⟩ := h2.shape
 obtain ⟨un, hln⟩ : ∃ q, q = (keep t).nodes.length := ⟨_, rfl⟩
 obtain ⟨um, hlm⟩ : ∃ q, q = (keep t).turns.length := ⟨_, rfl⟩
 rw [← hln, ← hlm] at hs ⊢
 clear h1 h2 hln hlm
 have K10 := Lib.hid (Kp.and (Kp.sto hs) (K9.out.later hf))
 clear K9
 clear hf hs
 have hal := mAll_c _ _ (keep t) (piecesFrom 0 l) w10 K10.out.now.1 HP.out.1.store (by have := keep_small HP.out.1 HP.out.2.2 HPF.out; rw [pieces_len]; exact this.1) (by have := keep_small HP.out.1 HP.out.2.2 HPF.out; rw [pieces_len]; exact this.2) K10.out.now.2.2.1 (piece_path HP.out.2.1) K10.out.now.2.2.2.2.2.2
 rw [pieces_snd] at hal
 have HAL := Lib.hid hal
 clear hal
 go_wp2_with fail
 refine HAL.out.mono ?_
 rintro e w11 hA
 have hf := hA.fp
 clear HAL
 have he := mAl_err hA HJ.out.2.2.1 HJ.out.1 (by rw [HJ.out.2.2.2.1]; exact HE0.out)
 rw [HJ.out.2.2.2.1] at he
 subst he
 have f0 := fp_alloc w11 (.cells #[.slice ua un ub, .slice uc um ud] TST)
 have r0 := heap_alloc_new w11 (.cells #[.slice ua un ub, .slice uc um ud] TST)
 have K11 := Lib.hid (Kp.and (Kp.row r0) (K10.out.later (hf.then f0)))
 clear K10
 clear hf f0 r0 hA
 go_upto_region 17 with (fail)
 generalize (World.alloc w11 _) = w11' at *
 generalize w11.heap.size = b12 at *
 go_upto_region 17 with (fail)
 have Hq := Lib.hid (fun W (f : Fp Non w11' W) => (And.intro (box3 (K11.out.later f).now.2.2.1).1 (And.intro (boxP2 (K11.out.later f).now.1).1 (boxP2 (K11.out.later f).now.1).2)))
 have HWD := Lib.hid (Fp.refl Non w11').drew
 go_wp2_with fail
 refine wp_region_held_drew (S := (fun w' => w'.cell? ⟨b11, 0, none⟩ = some (.int .i64 er) ∧ w'.cell? ⟨b12, 0, none⟩ = some (.slice ua un ub) ∧ w'.cell? ⟨b12, 1, none⟩ = some (.slice uc um ud))) (by kernel_rfl) ?_ (fun hH => ?_)
 ·exact Hq.out _ HWD.out
 generalize w11'.drew = wd at *
 refine tk 0 hH ?_
 refine tk 1 hH ?_
 refine tk 2 hH ?_
 refine tk 3 hH ?_
 refine tk 4 hH ?_
 refine tk 5 hH ?_
 refine tk 6 hH ?_
 refine tk 7 hH ?_
 refine tk 8 hH ?_
 refine tk 9 hH ?_
 refine tk 10 hH ?_
 refine tk 11 hH ?_
 refine tk 12 hH ?_
 refine rY 13 fun K hK => ?_
 go_simp
 go_at_call 32
 refine (Keep_c _ t wd (K11.out.later HWD.out).now.2.2.2.2.2.1 (by have := HLX.out; omega)).mono ?_
 rintro e w12 ⟨⟨vy, rfl, hy⟩, hf⟩
 obtain ⟨yn, yt, rfl, h1, h2⟩ := hy.ex
 obtain ⟨ya, yb, rfl⟩ := h1.shape
 obtain ⟨yc, yd, rfl⟩ := h2.shape
 have HWE := Lib.hid (HWD.out.then hf)
 have HY := Lib.hid hy
 clear hf hy h1 h2
 go_wp2_with fail
 refine hK.out _ _ (Hq.out _ HWE.out) (fun hH => ?_)
 clear hK K
 try simp only [zz]
 have hss := rSameS_c _ _ (keep t) (keep t) w12 (K11.out.later HWE.out).now.2.1 HY.out KLX.out.1 KLX.out.1 KLX.out.2 KLX.out.2
 rw [decide_eq_true rfl] at hss
 have HSS := Lib.hid hss
 clear hss
 refine rY 14 fun K hK => ?_
 go_simp
 go_at_call 23
 refine HSS.out.mono ?_
 rintro e w13 ⟨rfl, hf⟩
 have HWG := Lib.hid (HWE.out.then hf)
 clear hf HSS
 go_wp2_with fail
 refine hK.out _ _ (Hq.out _ HWG.out) (fun hH => ?_)
 clear hK K
 try simp only [zz]
 refine tk 15 hH ?_
 refine tk 16 hH ?_
 refine dn ?_
 clear hH Hq
 have K12 := Lib.hid (K11.out.later HWG.out)
 clear K11
 clear HWD HWE HWG HY
 obtain ⟨g, og, cap', e9, hcell⟩ := (Sg.at K12.out.now.2.2.2.1) (by have := HJ.out.2.1; omega)
 injection e9 with e1 e2 e3
 subst e1 e3
 clear e2
 have hel := (hcell j HJ.out.2.1).get 0 _ rfl
 rw [Nat.add_zero, HJ.out.2.2.2.2] at hel
 have HEL := Lib.hid hel
 clear hcell hel
 have y1 : (er == 0) = false := beq_eq_false_iff_ne.2 HE0.out
 have y2 : (er != 0) = true := by simpa using HE0.out
 have y3 : (er = 0) = False := eq_false HE0.out
 have y4 : ((0 : Int) ≤ (j : Int)) = True := eq_true (by omega)
 have y5 : ((j : Int) < (np : Int)) = True := eq_true (by rw [HNP.out.1]; have := HJ.out.2.1; omega)
 have y6 : (j < np) = True := eq_true (by rw [HNP.out.1]; exact HJ.out.2.1)
 go_upto_region 19 with (fail)
 have Hq := Lib.hid (fun W (f : Fp Non w13 W) => (And.intro (box3 (K12.out.later f).now.2.2.1).1 (And.intro (box3 (K12.out.later f).now.2.2.1).2.1 (f.cell HEL.out id))))
 have HWD := Lib.hid (Fp.refl Non w13).drew
 go_wp2_with fail
 refine wp_region_held_drew (S := (fun w' => w'.cell? ⟨b11, 0, none⟩ = some (.int .i64 er) ∧ w'.cell? ⟨b11, 1, none⟩ = some (.int .i64 (i : Int)) ∧ w'.cell? ⟨g, og + j * 8, none⟩ = some (.int .i64 (i : Int)))) (by kernel_rfl) ?_ (fun hH => ?_)
 ·exact Hq.out _ HWD.out
 generalize w13.drew = wg at *
 refine tk 0 hH ?_
 refine tk 1 hH ?_
 refine tk 2 hH ?_
 refine tk 3 hH ?_
 refine tk 4 hH ?_
 refine sk 5 hH ?_
 refine sk 6 hH ?_
 refine tk 7 hH ?_
 refine tk 8 hH ?_
 refine tk 9 hH ?_
 refine tk 10 hH ?_
 refine tk 11 hH ?_
 refine tk 12 hH ?_
 refine tk 13 hH ?_
 refine tk 14 hH ?_
 refine tk 15 hH ?_
 refine tk 16 hH ?_
 refine tk 17 hH ?_
 refine tk 18 hH ?_
 refine tk 19 hH ?_
 refine tk 20 hH ?_
 refine tk 21 hH ?_
 refine tk 22 hH ?_
 refine tk 23 hH ?_
 refine tk 24 hH ?_
 refine tk 25 hH ?_
 refine tk 26 hH ?_
 refine tk 27 hH ?_
 refine tk 28 hH ?_
 refine tk 29 hH ?_
 refine tk 30 hH ?_
 refine tk 31 hH ?_
 refine tk 32 hH ?_
 refine rY 33 fun K hK => ?_
 go_simp
 refine hK.out _ _ (Hq.out _ HWD.out) (fun hH => ?_)
 clear hK K
 try simp only [zz]
 refine dn ?_
 clear hH Hq
 have K13 := Lib.hid (K12.out.later HWD.out)
 clear K12
 clear HWD
 go_wp2
 go_ret
 exact ⟨rfl, K13.out.now.2.2.2.2.1⟩
end Go.Proofs.YtphoglepiegeiaaGreatDoor
