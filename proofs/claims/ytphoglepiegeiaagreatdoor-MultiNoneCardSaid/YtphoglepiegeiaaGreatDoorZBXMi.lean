/- A text of this proof. -/
import Derived.Test.YtphoglepiegeiaaGreatDoorZBXMh
set_option linter.unusedSimpArgs false
set_option linter.unusedVariables false
namespace Go.Proofs.YtphoglepiegeiaaGreatDoor
set_option maxRecDepth 20000
open Go.RowKit Pm
structure NoM (t : List Nd) (l : List Opn) (w : World) (k : Nat) (v : Value) (wr : World) : Prop where
 ex : ∃ now rs, RunO t l k now rs ∧ Ns wr v now
 fp : Fp Non w wr
attribute [local irreducible] wpStill
set_option maxHeartbeats 40000000 in
theorem MultiNone_c (v lv : Value) (t : List Nd) (l : List Opn) (w : World) (hv : Ns w v t) (hl : Ops w lv l) (hn : t.length ≤ 140737488355328) (ht : Tab w) :
  Calls Tryz.prog 11 #[v, lv] w fun e w' => e = .returned (.bool true) ∧ Fp Non w w' := by
 obtain ⟨ta, tc, rfl⟩ := hv.shape
 obtain ⟨al, cl, rfl⟩ := hl.shape
 obtain ⟨n, hnn⟩ : ∃ n, n = t.length := ⟨_, rfl⟩
 obtain ⟨z, hzz⟩ : ∃ z, z = l.length := ⟨_, rfl⟩
 have HX := Lib.hid (And.intro hnn hzz)
 rw [← hnn] at hv ⊢
 rw [← hzz] at hl ⊢
 clear hnn hzz
 have HN := Lib.hid hn
 have K0 := Lib.hid (Kp.and (Kp.fp (Fp.refl Non w)) (Kp.and (Kp.ns hv) (Kp.and (Kp.ops hl) (Kp.tab ht))))
 clear hv hl hn ht
 go_enter Tryz.func11, Tryz.ntmps11
 go_wp2_with fail
 refine (head8_c _ K0.out.now.2.2.2).mono ?_
 rintro e w1 ⟨rfl, hf⟩
 have K1 := Lib.hid (K0.out.later hf)
 clear K0
 clear hf
 have HGR := Lib.hid (Great_c _ t w1 K1.out.now.2.1 HN.out)
 go_wp2_with fail
 refine HGR.out.mono ?_
 rintro e w2 ⟨g, rfl, hg, hf⟩
 have K2 := Lib.hid (K1.out.later hf)
 clear K1
 have HG := Lib.hid hg
 clear hf hg HGR HN
 cases g with
 | true =>
  go_wp2
  go_ret
  exact ⟨rfl, K2.out.now.1⟩
 | false => ?_
 have HLF := Lib.hid (HG.out (by first | rfl | trivial))
 clear HG
 have HGO := Lib.hid (GreatOps_c _ l w2 K2.out.now.2.2.1)
 go_wp2_with fail
 refine HGO.out.mono ?_
 rintro e w3 ⟨g, rfl, hg, hf⟩
 have K3 := Lib.hid (K2.out.later hf)
 clear K2
 have HG := Lib.hid hg
 clear hf hg HGO
 cases g with
 | true =>
  go_wp2
  go_ret
  exact ⟨rfl, K3.out.now.1⟩
 | false => ?_
 have HOS := Lib.hid (HG.out (by first | rfl | trivial))
 clear HG
 have hz1 : z ≤ 40 := by rw [HX.out.2]; exact HOS.out.1
 go_wp2_with fail
 refine (mApply_c _ _ t l w3 K3.out.now.2.1 (few_sp HLF.out) K3.out.now.2.2.1 HOS.out.2 (by have := HOS.out.1; omega) K3.out.now.2.2.2).mono ?_
 rintro e w9 hm
 have hf := hm.fp
 rcases hm.way with ⟨hno, rfl⟩ | ⟨hR, hM, a, rs, v', rv, hrun, rfl, hz, hq⟩ | ⟨hR, hM, i, now, rs, hrun, hi, h0, rfl⟩
 ·have f0 := fp_alloc w9 (.cells #[.int .i64 1, .int .i64 0, .slice none 0 0] TDN)
  have r0 := heap_alloc_new w9 (.cells #[.int .i64 1, .int .i64 0, .slice none 0 0] TDN)
  have K4 := Lib.hid (Kp.and (Kp.row r0) (K3.out.later (hf.then f0)))
  clear K3
  clear hf f0 r0 hm
  go_upto_region 5 with (fail)
  generalize (World.alloc w9 _) = w9' at *
  generalize w9.heap.size = b7 at *
  obtain ⟨d0, d1, d2⟩ := box3 K4.out.now.1
  go_wp2
  go_ret
  exact ⟨rfl, K4.out.now.2.1⟩
 ·obtain ⟨za, zc, rfl⟩ := hz.shape
  obtain ⟨zn, hzn⟩ : ∃ q, q = a.length := ⟨_, rfl⟩
  rw [← hzn] at hz ⊢
  obtain ⟨ra, rc, rfl⟩ := hq.shape
  have hrl : rs.length = z := by rw [hrun.len, HX.out.2]
  rw [hrl] at hq ⊢
  have HRL := Lib.hid hrl
  have HRUN := Lib.hid hrun
  clear hzn hrun hrl
  have HT := Lib.hid (show Tr t ∧ (∀ o ∈ l, may o = true) from ⟨((right_iff t).1 hR).tr, ((mayL_iff l).1 hM).2⟩)
  clear hR hM
  have f0 := fp_alloc w9 (.cells #[.int .i64 0, .int .i64 0, .slice ra z rc] TDN)
  have r0 := heap_alloc_new w9 (.cells #[.int .i64 0, .int .i64 0, .slice ra z rc] TDN)
  have K4 := Lib.hid (Kp.and (Kp.row r0) (Kp.and (Kp.ns (hz.non f0)) (Kp.and (Kp.rrs (hq.non f0)) (K3.out.later (hf.then f0)))))
  clear K3
  clear hf f0 r0 hm
  go_upto_region 5 with (fail)
  generalize (World.alloc w9 _) = w9' at *
  generalize w9.heap.size = b7 at *
  obtain ⟨d0, d1, d2⟩ := box3 K4.out.now.1
  clear hz hq
  go_wp2_with fail
  clear d0 d1 d2
  go_loopw [8, 9] (fun vn i9 wr => ∃ q : Nat, q ≤ z ∧ i9 = .int .i64 q ∧ Hid (NoM t l w9' q vn wr)) (fun _ i9 _ => z - (RowKit.intOf i9).toNat)
  case atStart => exact ⟨0, Nat.zero_le _, rfl, ⟨t, [], .zero, K4.out.now.2.2.2.2.1⟩, Fp.refl _ _⟩
  obtain ⟨q, hq9, rfl, hRel⟩ := hrel
  rename_i wr _
  obtain ⟨now, rsq, hrq, hns⟩ := hRel.ex
  obtain ⟨wa, wc, rfl⟩ := hns.shape
  obtain ⟨wn, hwn⟩ : ∃ q, q = now.length := ⟨_, rfl⟩
  rw [← hwn] at hns ⊢
  clear hwn
  obtain ⟨d0, d1, d2⟩ := box3 (K4.out.later hRel.fp).now.1
  by_cases hlt : q < z
  ·have hql : q < l.length := by rw [← HX.out.2]; exact hlt
   obtain ⟨now', x, rs', r, g2, _, hr, hap, hr0, hre⟩ := HRUN.out.back hql
   obtain ⟨rfl, rfl⟩ := hrq.det g2
   have hrn : RunO t l (q + 1) x (rsq ++ [r]) := .succ hrq hql hap hr0
   have hnsp := (tr_few (hrq.tree HT.out.1 HT.out.2).1).2
   have hsp := HOS.out.2 _ (List.getElem_mem hql)
   have HR := Lib.hid (And.intro hRel.fp (K4.out.later hRel.fp).now.2.2.2.2.2.2)
   have hrr := (K4.out.later hRel.fp).now.2.2.1
   obtain ⟨gr, gb, rc', e9, hrc⟩ := hrr.at (by have := HRL.out; omega)
   rw [HRL.out] at e9
   injection e9 with e1 e2 e3
   subst e1 e3
   clear e2
   obtain ⟨na, nc, hra⟩ := hrc q hr
   rw [hre] at hra
   have HRA := Lib.hid hra
   have HRN := Lib.hid (And.intro hrn hr0)
   obtain ⟨g, og, cap', e9, hcell⟩ := ((K4.out.later hRel.fp).now.2.2.2.2.2.1).at (by rw [← HX.out.2]; omega)
   injection e9 with e1 e2 e3
   subst e1 e3
   clear e2
   have hop := hcell q hql
   clear hrc hra hrn hrr hrq g2 hre hr hr0 hRel
   obtain ⟨o, ho⟩ : ∃ o, l[q] = o := ⟨_, rfl⟩
   rw [ho] at hop hap hsp
   obtain ⟨kk, op, od, ov, oo, ot⟩ := o
   have c0 := hop.c0; have c1 := hop.c1; have c2 := hop.c2; have c3 := hop.c3; have c4 := hop.c4; have c5 := hop.c5
   have hca := hd_ap hap _ wr hns hnsp hsp (HR.out.2)
   unfold opV strV at hca
   unfold strV at c1 c2
   simp only at c0 c1 c2 c3 c4 c5 hca
   have HCA := Lib.hid hca
   have HL := Lib.hid hlt
   have q3 : ((q : Int) < (z : Int)) = True := eq_true (by omega)
   have q4 : (q < z) = True := eq_true hlt
   clear hcell hop ho hap hca hns hnsp hsp hlt hql
   go_wp2_with fail
   refine HCA.out.mono ?_
   rintro e w10 ⟨⟨xv, xnv, rfl, hx, ho⟩, hf⟩
   clear HCA
   obtain ⟨xa, xc, rfl⟩ := hx.shape
   obtain ⟨xna, xnc, rfl⟩ := ho.shape
   obtain ⟨xn, hnx⟩ : ∃ q, q = x.length := ⟨_, rfl⟩
   obtain ⟨xm, hnm⟩ : ∃ q, q = r.names.length := ⟨_, rfl⟩
   rw [← hnx] at hx ⊢
   rw [← hnm] at ho ⊢
   clear hnx hnm
   have f0 := fp_alloc w10 (.cells #[.int .i64 r.err, .string (B r.path), .string (B r.data), .int .i64 r.ver, .slice xna xm xnc] TR)
   have r0 := heap_alloc_new w10 (.cells #[.int .i64 r.err, .string (B r.path), .string (B r.data), .int .i64 r.ver, .slice xna xm xnc] TR)
   have HRW0 := Lib.hid (hf.then f0)
   have KX0 := Lib.hid (Kp.and (Kp.row r0) (Kp.and (Kp.ns (hx.non f0)) (Kp.and (Kp.ownM (ho.grown' f0)) (Kp.fp (HR.out.1.then (hf.then f0))))))
   clear hf f0 r0 hx ho c0 c1 c2 c3 c4 c5
   go_upto_region 14 with (fail)
   generalize (World.alloc w10 _) = w10' at *
   generalize w10.heap.size = b11 at *
   have hr9 := HRN.out.2
   have e1 : (r.err != 0) = false := by simp [hr9]
   have e2 : (r.err == 0) = true := beq_iff_eq.2 hr9
   have e3 : (r.err = 0) = True := eq_true hr9
   clear hr9 d0 d1 d2
   obtain ⟨d0, d1, d2⟩ := box3 (K4.out.later KX0.out.now.2.2.2).now.1
   go_upto_region 16 with (fail)
   have Hq := Lib.hid (fun W (f : Fp Non w10' W) => (And.intro (box3 (K4.out.later (KX0.out.now.2.2.2.then f)).now.1).1 (And.intro (box3 (K4.out.later (KX0.out.now.2.2.2.then f)).now.1).2.2 (And.intro (box5 (KX0.out.later f).now.1).1 (And.intro (box5 (KX0.out.later f).now.1).2.1 (And.intro (box5 (KX0.out.later f).now.1).2.2.1 (And.intro (box5 (KX0.out.later f).now.1).2.2.2.1 (And.intro (box5 (KX0.out.later f).now.1).2.2.2.2 (And.intro (show ReAt W gr (gb + q * 5) r na nc from HRA.out.non (HRW0.out.then f)).c0 (And.intro (show ReAt W gr (gb + q * 5) r na nc from HRA.out.non (HRW0.out.then f)).c1 (And.intro (show ReAt W gr (gb + q * 5) r na nc from HRA.out.non (HRW0.out.then f)).c2 (And.intro (show ReAt W gr (gb + q * 5) r na nc from HRA.out.non (HRW0.out.then f)).c3 (show ReAt W gr (gb + q * 5) r na nc from HRA.out.non (HRW0.out.then f)).c4))))))))))))
   have HWD := Lib.hid (Fp.refl Non w10').drew
   clear d0 d1 d2
   go_wp2_with fail
   refine wp_region_held_drew (S := (fun w' => w'.cell? ⟨b7, 0, none⟩ = some (.int .i64 0) ∧ w'.cell? ⟨b7, 2, none⟩ = some (.slice (some ⟨gr, gb, none⟩) z rc) ∧ w'.cell? ⟨b11, 0, none⟩ = some (.int .i64 r.err) ∧ w'.cell? ⟨b11, 1, none⟩ = some (.string (B r.path)) ∧ w'.cell? ⟨b11, 2, none⟩ = some (.string (B r.data)) ∧ w'.cell? ⟨b11, 3, none⟩ = some (.int .i64 r.ver) ∧ w'.cell? ⟨b11, 4, none⟩ = some (.slice xna xm xnc) ∧ w'.cell? ⟨gr, gb + q * 5, none⟩ = some (.int .i64 r.err) ∧ w'.cell? ⟨gr, gb + q * 5 + 1, none⟩ = some (.string (B r.path)) ∧ w'.cell? ⟨gr, gb + q * 5 + 2, none⟩ = some (.string (B r.data)) ∧ w'.cell? ⟨gr, gb + q * 5 + 3, none⟩ = some (.int .i64 r.ver) ∧ w'.cell? ⟨gr, gb + q * 5 + 4, none⟩ = some (.slice na r.names.length nc))) (by kernel_rfl) ?_ (fun hH => ?_)
   ·exact Hq.out _ HWD.out
   generalize w10'.drew = wd at *
   refine tk 0 hH ?_
   refine tk 1 hH ?_
   refine tk 2 hH ?_
   refine tk 3 hH ?_
   refine tk 4 hH ?_
   refine tk 5 hH ?_
   refine tk 6 hH ?_
   refine tk 7 hH ?_
   refine tk 8 hH ?_
   refine tk 9 hH ?_
   refine tk 10 hH ?_
   refine tk 11 hH ?_
   refine tk 12 hH ?_
   refine tk 13 hH ?_
   have hso : ∀ W, Fp Non wd W → Calls Tryz.prog 70 #[.slice xna xm xnc, .slice na r.names.length nc] W fun e w' => e = .returned (.bool true) ∧ Fp Non W w' := fun W f => by
    obtain ⟨lo, ho⟩ := (ReAt.own (HRA.out.non (HRW0.out.then (HWD.out.then f))))
    exact same_ownM (KX0.out.later (HWD.out.then f)).now.2.2.1 ho
   have hsn := rSameOne_c r.err r.path r.data r.ver (.slice xna xm xnc) (.slice na r.names.length nc) wd hso
   have HSN := Lib.hid hsn
   clear hso hsn
   refine rY 14 fun K hK => ?_
   go_simp
   go_at_call 24
   refine HSN.out.mono ?_
   rintro e w11 ⟨rfl, hf⟩
   have HWG := Lib.hid (HWD.out.then hf)
   clear hf HSN
   go_wp2_with fail
   refine hK.out _ _ (Hq.out _ HWG.out) (fun hH => ?_)
   clear hK K
   try simp only [zz]
   refine tk 15 hH ?_
   refine tk 16 hH ?_
   refine tk 17 hH ?_
   refine dn ?_
   have hM := Lib.hid (show NoM t l w9' (q + 1) (.slice xa xn xc) w11 from ⟨⟨_, _, HRN.out.1, (KX0.out.later HWG.out).now.2.1⟩, (KX0.out.later HWG.out).now.2.2.2⟩)
   clear hH Hq HWD HWG KX0 HRA HR HRW0
   have hj := HL.out
   go_wp2
   go_roundw
   case rel => exact ⟨q + 1, by have := HL.out; omega, by have := HL.out; go_num, hM⟩
   case measure => have := HL.out; simp [RowKit.intOf]; omega
  obtain rfl : z = q := by omega
  have q3 : ((z : Int) < (z : Int)) = False := eq_false (by omega)
  have hrq' : RunO t l l.length now rsq := by rw [← HX.out.2]; exact hrq
  obtain ⟨rfl, rfl⟩ := HRUN.out.det hrq'
  have hsm := fun W (f : Fp Non wr W) => rSameN_c _ _ a a W (hns.non f) (K4.out.later (hRel.fp.then f)).now.2.1 (tr_few (hrq.tree HT.out.1 HT.out.2).1).1 (tr_few (hrq.tree HT.out.1 HT.out.2).1).1
  rw [decide_eq_true rfl] at hsm
  have HSM := Lib.hid hsm
  have HFW := Lib.hid ((K4.out.later hRel.fp).now.2.2.2.1)
  clear hsm hrq hrq' hns hRel hlt hq9
  go_wp2_with fail
  refine (HSM.out _ (Fp.refl _ _)).mono ?_
  rintro e w12 ⟨rfl, hf⟩
  have F := Lib.hid (HFW.out.then hf)
  clear hf d0 d1 d2
  go_wp2
  go_ret
  exact ⟨rfl, F.out⟩
 obtain ⟨er, her⟩ : ∃ er, (apply now l[i]).2.err = er := ⟨_, rfl⟩
 rw [her] at h0 ⊢
 have HRUN := Lib.hid hrun
 have HI := Lib.hid (And.intro her h0)
 have HT := Lib.hid (show Tr t ∧ (∀ o ∈ l, may o = true) from ⟨((right_iff t).1 hR).tr, ((mayL_iff l).1 hM).2⟩)
 clear hR hM
 obtain ⟨x9, r9, hap9⟩ : ∃ x r, apply now l[i] = (x, r) := ⟨_, _, rfl⟩
 have hr9 : r9.err = er := by rw [hap9] at her; exact her
 have hne := (apply_same (hrun.tree HT.out.1 HT.out.2).1 (HT.out.2 _ (List.getElem_mem hi)) hap9).1 (by rw [hr9]; exact h0)
 rw [hr9] at hne
 clear hap9 hr9
 have hiz : i < z := by rw [HX.out.2]; exact hi
 have y1 : (er == 0) = false := beq_eq_false_iff_ne.2 h0
 have y2 : (er != 0) = true := by simpa using h0
 have y3 : (er = 0) = False := eq_false h0
 have y4 : (er == 1) = false := beq_eq_false_iff_ne.2 hne.2
 have y5 : (er = 1) = False := eq_false hne.2
 have y6 : ((i : Int) < 0) = False := eq_false (by omega)
 have y7 : ((z : Int) ≤ (i : Int)) = False := eq_false (by omega)
 have y8 : (z ≤ i) = False := eq_false (by omega)
 have HIZ := Lib.hid hiz
 clear hrun h0 hne hiz her
 have f0 := fp_alloc w9 (.cells #[.int .i64 er, .int .i64 (i : Int), .slice none 0 0] TDN)
 have r0 := heap_alloc_new w9 (.cells #[.int .i64 er, .int .i64 (i : Int), .slice none 0 0] TDN)
 have K4 := Lib.hid (Kp.and (Kp.row r0) (K3.out.later (hf.then f0)))
 clear K3
 clear hf f0 r0 hm
 go_upto_region 5 with (fail)
 generalize (World.alloc w9 _) = w9' at *
 generalize w9.heap.size = b7 at *
 obtain ⟨d0, d1, d2⟩ := box3 K4.out.now.1
 have hsm := fun W (f : Fp Non w9' W) => rSameN_c _ _ t t W (K4.out.later f).now.2.2.1 (K4.out.later f).now.2.2.1 (by have := HLF.out.1; omega) (by have := HLF.out.1; omega)
 rw [decide_eq_true rfl] at hsm
 have HSM := Lib.hid hsm
 clear hsm
 go_wp2_with fail
 refine (HSM.out _ (Fp.refl _ _)).mono ?_
 rintro e w9b ⟨rfl, hf⟩
 have K5 := Lib.hid (K4.out.later hf)
 clear K4
 clear hf HSM d0 d1 d2
 obtain ⟨d0, d1, d2⟩ := box3 K5.out.now.1
 go_wp2_with fail
 have HW9 : Hid (w9b = w9b) := rfl
 clear d0 d1 d2
 go_loopw [8, 9] (fun vn i9 wr => ∃ q : Nat, q ≤ i ∧ i9 = .int .i64 q ∧ Hid (NoM t l w9b q vn wr)) (fun _ i9 _ => z - (RowKit.intOf i9).toNat)
 case atStart => exact ⟨0, Nat.zero_le _, rfl, ⟨t, [], .zero, K5.out.now.2.2.1⟩, Fp.refl _ _⟩
 obtain ⟨q, hq9, rfl, hRel⟩ := hrel
 rename_i wr _
 obtain ⟨now', rsq, hrq, hns⟩ := hRel.ex
 obtain ⟨wa, wc, rfl⟩ := hns.shape
 obtain ⟨wn, hwn⟩ : ∃ q, q = now'.length := ⟨_, rfl⟩
 rw [← hwn] at hns ⊢
 clear hwn
 obtain ⟨d0, d1, d2⟩ := box3 (K5.out.later hRel.fp).now.1
 have hlt : q < z := by have := HIZ.out; omega
 have hql : q < l.length := by rw [← HX.out.2]; exact hlt
 obtain ⟨x, r, hap⟩ : ∃ x r, apply now' l[q] = (x, r) := ⟨_, _, rfl⟩
 have hnsp := (tr_few (hrq.tree HT.out.1 HT.out.2).1).2
 have hsp := HOS.out.2 _ (List.getElem_mem hql)
 have HR := Lib.hid (And.intro hRel.fp (K5.out.later hRel.fp).now.2.2.2.2)
 have hway : (q = i ∧ r.err = er) ∨ (q < i ∧ r.err = 0 ∧ RunO t l (q + 1) x (rsq ++ [r])) := by
  rcases Nat.lt_or_eq_of_le hq9 with h | h
  ·obtain ⟨now2, x2, rs2, r2, g2, _, _, hap2, hr0, _⟩ := HRUN.out.back h
   obtain ⟨rfl, rfl⟩ := hrq.det g2
   rw [hap] at hap2
   injection hap2 with e1 e2
   subst e1 e2
   exact .inr ⟨h, hr0, .succ hrq hql hap hr0⟩
  subst h
  obtain ⟨rfl, rfl⟩ := hrq.det HRUN.out
  have := HI.out.1
  rw [hap] at this
  exact .inl ⟨rfl, this⟩
 have HWAY := Lib.hid hway
 obtain ⟨g, og, cap', e9, hcell⟩ := ((K5.out.later hRel.fp).now.2.2.2.1).at (by rw [← HX.out.2]; omega)
 injection e9 with e1 e2 e3
 subst e1 e3
 clear e2
 have hop := hcell q hql
 clear hway hrq hRel
 obtain ⟨o, ho⟩ : ∃ o, l[q] = o := ⟨_, rfl⟩
 rw [ho] at hop hap hsp
 obtain ⟨kk, op, od, ov, oo, ot⟩ := o
 have c0 := hop.c0; have c1 := hop.c1; have c2 := hop.c2; have c3 := hop.c3; have c4 := hop.c4; have c5 := hop.c5
 have hca := hd_ap hap _ wr hns hnsp hsp (HR.out.2)
 unfold opV strV at hca
 unfold strV at c1 c2
 simp only at c0 c1 c2 c3 c4 c5 hca
 have HCA := Lib.hid hca
 have HL := Lib.hid hlt
 have q3 : ((q : Int) < (z : Int)) = True := eq_true (by omega)
 have q4 : (q < z) = True := eq_true hlt
 clear hcell hop ho hap hca hns hnsp hsp hlt hql
 go_wp2_with fail
 refine HCA.out.mono ?_
 rintro e w10 ⟨⟨xv, xnv, rfl, hx, ho⟩, hf⟩
 clear HCA
 obtain ⟨xa, xc, rfl⟩ := hx.shape
 obtain ⟨xna, xnc, rfl⟩ := ho.shape
 obtain ⟨xn, hnx⟩ : ∃ q, q = x.length := ⟨_, rfl⟩
 obtain ⟨xm, hnm⟩ : ∃ q, q = r.names.length := ⟨_, rfl⟩
 rw [← hnx] at hx ⊢
 rw [← hnm] at ho ⊢
 clear hnx hnm
 have f0 := fp_alloc w10 (.cells #[.int .i64 r.err, .string (B r.path), .string (B r.data), .int .i64 r.ver, .slice xna xm xnc] TR)
 have r0 := heap_alloc_new w10 (.cells #[.int .i64 r.err, .string (B r.path), .string (B r.data), .int .i64 r.ver, .slice xna xm xnc] TR)
 have HRW0 := Lib.hid (hf.then f0)
 have KX0 := Lib.hid (Kp.and (Kp.row r0) (Kp.and (Kp.ns (hx.non f0)) (Kp.and (Kp.ownM (ho.grown' f0)) (Kp.fp (HR.out.1.then (hf.then f0))))))
 clear hf f0 r0 hx ho c0 c1 c2 c3 c4 c5
 go_upto_region 14 with (fail)
 generalize (World.alloc w10 _) = w10' at *
 generalize w10.heap.size = b11 at *
 clear d0 d1 d2
 obtain ⟨d0, d1, d2⟩ := box3 (K5.out.later KX0.out.now.2.2.2).now.1
 obtain ⟨b0, b1, b2, b3, b4⟩ := box5 KX0.out.now.1
 rcases HWAY.out with ⟨hqi, hre⟩ | ⟨hqi, hre, hrn⟩
 ·subst hqi
  rw [hre] at b0
  have HFW := Lib.hid ((K5.out.later KX0.out.now.2.2.2).now.2.1)
  clear hre HWAY
  go_wp2
  go_ret
  exact ⟨rfl, HFW.out⟩
 have y9 : ((q : Int) == (i : Int)) = false := beq_eq_false_iff_ne.2 (by omega)
 have y10 : ((q : Int) = (i : Int)) = False := eq_false (by omega)
 have y11 : (q == i) = false := beq_eq_false_iff_ne.2 (by omega)
 have y12 : (q = i) = False := eq_false (by omega)
 have e1 : (r.err != 0) = false := by simp [hre]
 have e2 : (r.err == 0) = true := beq_iff_eq.2 hre
 have e3 : (r.err = 0) = True := eq_true hre
 have HQI := Lib.hid (And.intro hqi hrn)
 clear hre hqi hrn HWAY
 go_upto_region 16 with (fail)
 have Hq := Lib.hid (fun W (f : Fp Non w10' W) => (And.intro (box3 (K5.out.later (KX0.out.now.2.2.2.then f)).now.1).1 (box5 (KX0.out.later f).now.1).1))
 have HWD := Lib.hid (Fp.refl Non w10').drew
 clear d0 d1 d2 b0 b1 b2 b3 b4
 go_wp2_with fail
 refine wp_region_held_drew (S := (fun w' => w'.cell? ⟨b7, 0, none⟩ = some (.int .i64 er) ∧ w'.cell? ⟨b11, 0, none⟩ = some (.int .i64 r.err))) (by kernel_rfl) ?_ (fun hH => ?_)
 ·exact Hq.out _ HWD.out
 generalize w10'.drew = wd at *
 refine tk 0 hH ?_
 refine tk 1 hH ?_
 refine tk 2 hH ?_
 refine tk 3 hH ?_
 refine tk 4 hH ?_
 refine tk 5 hH ?_
 refine tk 6 hH ?_
 refine tk 7 hH ?_
 refine sk 8 hH ?_
 refine sk 9 hH ?_
 refine sk 10 hH ?_
 refine sk 11 hH ?_
 refine sk 12 hH ?_
 refine sk 13 hH ?_
 refine sk 14 hH ?_
 refine sk 15 hH ?_
 refine tk 16 hH ?_
 refine tk 17 hH ?_
 refine dn ?_
 have hM := Lib.hid (show NoM t l w9b (q + 1) (.slice xa xn xc) wd from ⟨⟨_, _, HQI.out.2, (KX0.out.later HWD.out).now.2.1⟩, (KX0.out.later HWD.out).now.2.2.2⟩)
 clear hH Hq HWD KX0 HR
 have hj := HL.out
 go_wp2
 go_roundw
 case rel => exact ⟨q + 1, HQI.out.1, by have := HL.out; go_num, hM⟩
 case measure => have := HL.out; simp [RowKit.intOf]; omega
end Go.Proofs.YtphoglepiegeiaaGreatDoor
