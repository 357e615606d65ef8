/- A text of this proof. -/
import Derived.Test.YtphoglepiegeiaaGreatDoorZCBA
import Derived.Test.YtphoglepiegeiaaGreatDoorZCBC
import Derived.Test.YtphoglepiegeiaaGreatDoorZCD
import Derived.Test.YtphoglepiegeiaaGreatDoorZCM
import Derived.Test.YtphoglepiegeiaaGreatDoorZCO
import Derived.Test.YtphoglepiegeiaaGreatDoorZCV
set_option linter.unusedSimpArgs false
set_option linter.unusedVariables false
namespace Go.Proofs.YtphoglepiegeiaaGreatDoor
set_option maxRecDepth 20000
open Go.RowKit Pm
theorem rOf_f (o : Opn) (w : World) (hl : o.path.length ≤ 1000000) :
  Calls Tryz.prog 31 #[opV o] w fun e w' => (∃ v', e = .returned v' ∧ Sg ptC 7 w' v' (partsOf o) ∧ ∀ j, v'.ownBlock = some j → w.heap.size ≤ j) ∧ Fp Non w w' :=
 (rOf_c o w hl).mono fun _ _ h => ⟨h.ex, h.fp⟩
set_option maxHeartbeats 16000000 in
theorem rOfM_c (lv : Value) (l : List Opn) (w : World) (hl : Ops w lv l) (hls : OSp l) (hln : l.length ≤ 1000000) :
  Calls Tryz.prog 47 #[lv] w fun e w' => (∃ v', e = .returned v' ∧ Opc w.heap.size w' v' (piecesOf l)) ∧ Fp Non w w' := by
 have hmm := rMayL_c lv l w hl hls hln
 obtain ⟨al, cl, rfl⟩ := hl.shape
 obtain ⟨n, hn⟩ : ∃ n, n = l.length := ⟨_, rfl⟩
 obtain ⟨bm, hbm⟩ : ∃ b, mayL l = b := ⟨_, rfl⟩
 rw [hbm, ← hn] at hmm
 have hpo : piecesOf l = if bm = true then piecesFrom 0 l else [] := by unfold piecesOf; rw [hbm]
 have HM := zI (yI hmm (yI hbm hpo))
 have HN := zI (yI hn (yI hl hls))
 rw [← hn]
 clear hl hls hln hmm hbm hpo hn
 go_enter Tryz.func47, Tryz.ntmps47
 go_wp2_with fail
 refine HM.out.1.mono ?_
 rintro e w1 ⟨rfl, hf⟩
 have F1 := zI hf
 clear hf
 cases bm with
 | false =>
  have hp := HM.out.2.2
  simp only [Bool.false_eq_true, if_false] at hp
  have HP := zI hp
  clear hp
  go_wp2
  go_ret
  exact ⟨⟨_, rfl, by rw [HP.out]; exact OwG.nil _ _⟩, F1.out⟩
 | true => ?_
 have hp := HM.out.2.2
 simp only [if_true] at hp
 have HP := zI hp
 have hnb : n ≤ 8 := by rw [HN.out.1]; exact ((mayL_iff l).1 HM.out.2.1).1.2
 have H0 : Hid (Opc w.heap.size w1 (.slice none 0 0) (piecesFrom 0 (l.take 0)) ∧ Fp Non w w1) := ⟨by rw [List.take_zero]; exact OwG.nil _ _, F1.out⟩
 clear hp F1
 go_wp2_with fail
 go_loopw [3, 4] (fun v i wr => ∃ k : Nat, k ≤ n ∧ i = .int .i64 k ∧ Hid (Opc w.heap.size wr v (piecesFrom 0 (l.take k)) ∧ Fp Non w wr)) (fun _ i _ => n - (RowKit.intOf i).toNat)
 case atStart => exact ⟨0, Nat.zero_le _, rfl, H0⟩
 clear H0
 obtain ⟨k, hk, rfl, hR⟩ := hrel
 rename_i wr _
 by_cases hlt : k < n
 ·have hkl : k < l.length := by rw [← HN.out.1]; exact hlt
  obtain ⟨g, og, cap', e9, hcell⟩ := (HN.out.2.1.non hR.out.2).at (by omega)
  injection e9 with e1 e2 e3
  subst e1 e3
  clear e2
  have hop := hcell k hkl
  have hsp := HN.out.2.2 _ (List.getElem_mem hkl)
  have hpt := pieces_take l k hkl
  have hpl : (piecesFrom 0 (l.take k)).length ≤ 16 := by have := pieces_few (l.take k) 0; rw [List.length_take] at this; omega
  obtain ⟨x, hx⟩ : ∃ x, l[k] = x := ⟨_, rfl⟩
  rw [hx] at hop hsp hpt
  have hof := fun W => rOf_f x W hsp
  have hp2 := parts_le2 x
  obtain ⟨ps, hps⟩ : ∃ ps, partsOf x = ps := ⟨_, rfl⟩
  rw [hps] at hof hpt hp2
  obtain ⟨kk, op, od, ov, oo, ot⟩ := x
  have c0 := hop.c0; have c1 := hop.c1; have c2 := hop.c2; have c3 := hop.c3; have c4 := hop.c4; have c5 := hop.c5
  unfold opV strV at hof
  unfold strV at c1 c2
  simp only at c0 c1 c2 c3 c4 c5 hof
  have HOF := zI (yI hof (yI hpt (yI hp2 hpl)))
  have HL := zI hlt
  have HF := zI hR.out
  have q3 : ((k : Int) < (n : Int)) = True := eq_true (by omega)
  have q4 : (k < n) = True := eq_true hlt
  have FB := zI HF.out.2
  have FB2 := zI (Fp.refl Non wr)
  clear hcell hop hsp hpt hpl hx hof hp2 hps hlt hkl hR
  go_wp2_with fail
  refine (HOF.out.1 _).mono ?_
  rintro e w5 ⟨⟨v5, rfl, hsg, hnew⟩, hf⟩
  obtain ⟨a5, c5', rfl⟩ := hsg.shape
  obtain ⟨m, hm⟩ : ∃ m, m = ps.length := ⟨_, rfl⟩
  rw [← hm] at hsg ⊢
  have hmb : m ≤ 2 := by rw [hm]; exact HOF.out.2.2.1
  have H5 : Hid (Opc w.heap.size w5 u3 (piecesFrom 0 (l.take k) ++ (ps.take 0).map (fun p => (k, p))) ∧ Fp Non w w5 ∧ Sg ptC 7 w5 (.slice a5 m c5') ps ∧ ∀ j, u3.ownBlock = some j → (Value.slice a5 m c5').ownBlock ≠ some j) := ⟨by rw [List.take_zero, List.map_nil, List.append_nil]; exact HF.out.1.non (FB2.out.then hf), FB.out.then hf, hsg, fun j hj e => by
   have h1 := hnew j (by rw [← hm]; exact e)
   have h2 := (HF.out.1.lt j hj).2
   exact absurd (Nat.lt_of_lt_of_le h2 (Nat.le_trans FB2.out.size h1)) (Nat.lt_irrefl _)⟩
  have HM5 := zI hm
  clear hsg hf hm hnew
  go_wp2_with fail
  go_loopw [3, 6] (fun v i wr => ∃ j : Nat, j ≤ m ∧ i = .int .i64 j ∧ Hid (Opc w.heap.size wr v (piecesFrom 0 (l.take k) ++ (ps.take j).map (fun p => (k, p))) ∧ Fp Non w wr ∧ Sg ptC 7 wr (.slice a5 m c5') ps ∧ ∀ j, v.ownBlock = some j → (Value.slice a5 m c5').ownBlock ≠ some j)) (fun _ i _ => m - (RowKit.intOf i).toNat)
  case atStart => exact ⟨0, Nat.zero_le _, rfl, H5⟩
  clear H5
  obtain ⟨j, hj, rfl, hR⟩ := hrel
  rename World => wr2
  by_cases hlt : j < m
  ·have hjl : j < ps.length := by rw [← HM5.out]; exact hlt
   obtain ⟨g5, o5, cap5, e9, hcell⟩ := hR.out.2.2.1.at (by omega)
   injection e9 with e1 e2 e3
   subst e1 e3
   clear e2
   have hel := hcell j hjl
   have htk : (ps.take (j + 1)).map (fun p => (k, p)) = (ps.take j).map (fun p => (k, p)) ++ [(k, ps[j])] := by rw [List.take_succ_eq_append_getElem hjl, List.map_append]; rfl
   obtain ⟨y, hy⟩ : ∃ y, ps[j] = y := ⟨_, rfl⟩
   rw [hy] at hel htk
   obtain ⟨yk, yd, yp, ya, yv, yo, yt⟩ := y
   have d0 := hel.get 0 _ rfl
   have d1 := hel.get 1 _ rfl
   have d2 := hel.get 2 _ rfl
   have d3 := hel.get 3 _ rfl
   have d4 := hel.get 4 _ rfl
   have d5 := hel.get 5 _ rfl
   have d6 := hel.get 6 _ rfl
   rw [Nat.add_zero] at d0
   unfold strV at d1 d2 d3
   simp only at d0 d1 d2 d3 d4 d5 d6
   have q5 : ((j : Int) < (m : Int)) = True := eq_true (by omega)
   have q6 : (j < m) = True := eq_true hlt
   obtain ⟨p3, n3, c3, rfl⟩ : ∃ p3 n3 c3, u3 = .slice p3 n3 c3 := by
    rcases hR.out.1.2 with ⟨h, _⟩ | ⟨_, _, _, h, _⟩
    ·exact ⟨_, _, _, h⟩
    exact ⟨_, _, _, h⟩
   have fb := Fp.refl Non wr2
   have hap := app_pc wr2 w.heap.size (.slice p3 n3 c3) (piecesFrom 0 (l.take k) ++ (ps.take j).map (fun p => (k, p))) (k, ⟨yk, yd, yp, ya, yv, yo, yt⟩) TPCL (hR.out.1.non fb) (by rw [List.length_append, List.length_map, List.length_take]; have := HOF.out.2.2.2; omega) (Nat.le_trans hR.out.2.1.size fb.size)
   rw [show (pcC (k, ⟨yk, yd, yp, ya, yv, yo, yt⟩)).toArray = #[.int .i64 (k : Int), .int .i64 yk, .string (B yd), .string (B yp), .string (B ya), .int .i64 yv, .int .i64 yo, .bool yt] from rfl] at hap
   have HAP := zI hap
   have HTK := zI htk
   have HL2 := zI hlt
   have FB3 := zI (fb.then (fp_alloc wr2 (.cells #[.int .i64 (k : Int), .int .i64 yk, .string (B yd), .string (B yp), .string (B ya), .int .i64 yv, .int .i64 yo, .bool yt] TPC)))
   clear hcell hel htk hy hap fb hlt hjl
   go_wp2_with (at_builtin; go_must (refine wpList_app rfl _ _ _ _ rfl _ _ rfl rfl _ HAP.out ?_))
   intro v7 w7 hc
   have hf7 := (hR.out.2.1.then FB3.out).trans hc.fp (fun i hi => .inr (hR.out.1.lt i hi).1)
   have hs7 : Sg ptC 7 w7 (.slice (some ⟨g5, o5, none⟩) m c5') ps := (hR.out.2.2.1.non FB3.out).keep1 hc.fp (fun i hi e => hR.out.2.2.2 i e hi)
   have hfr7 : ∀ i, v7.ownBlock = some i → (Value.slice (some ⟨g5, o5, none⟩) m c5').ownBlock ≠ some i := fun i hi e => by
    rcases hc.new i hi with h | h
    ·exact hR.out.2.2.2 i h e
    have h1 : g5 < wr2.heap.size := World.block_lt_of_cell? wr2 _ d0
    have h2 : g5 = i := by simpa [Value.ownBlock] using e
    have h3 := FB3.out.size
    omega
   have hM : Hid (Opc w.heap.size w7 v7 (piecesFrom 0 (l.take k) ++ (ps.take (j + 1)).map (fun p => (k, p))) ∧ Fp Non w w7 ∧ Sg ptC 7 w7 (.slice (some ⟨g5, o5, none⟩) m c5') ps ∧ ∀ j, v7.ownBlock = some j → (Value.slice (some ⟨g5, o5, none⟩) m c5').ownBlock ≠ some j) := ⟨by rw [HTK.out, List.map_take]; exact hc.own, hf7, hs7, hfr7⟩
   clear hc hf7 hs7 hfr7 d0 d1 d2 d3 d4 d5 d6
   have hj1 := HL2.out
   go_wp2
   go_roundw
   case rel => exact ⟨j + 1, by omega, by go_num, hM⟩
   case measure => simp [RowKit.intOf]; omega
  have hje : j = m := by omega
  subst hje
  have q5 : ((j : Int) < (j : Int)) = False := eq_false (by omega)
  have hO := hR.out.1
  have htl : ps.take j = ps := by rw [HM5.out, List.take_length]
  rw [htl, ← HOF.out.2.1] at hO
  have hM : Hid (Opc w.heap.size wr2 u3 (piecesFrom 0 (l.take (k + 1))) ∧ Fp Non w wr2) := ⟨hO, hR.out.2.1⟩
  clear hO htl hlt hj hR
  have hj1 := HL.out
  go_wp2
  go_roundw
  case rel => exact ⟨k + 1, by omega, by go_num, hM⟩
  case measure => simp [RowKit.intOf]; omega
 have hke : k = n := by omega
 subst hke
 have q3 : ((k : Int) < (k : Int)) = False := eq_false (by omega)
 have hO := hR.out.1
 have htl : l.take k = l := by rw [HN.out.1, List.take_length]
 rw [htl, ← HP.out] at hO
 have H9 := zI (yI hO hR.out.2)
 clear hO htl hlt hk hR
 go_wp2
 go_ret
 exact ⟨⟨_, rfl, H9.out.1⟩, H9.out.2⟩
attribute [local irreducible] wpStill
set_option maxHeartbeats 40000000 in
theorem MultiTells_c (v lv : Value) (t : List Nd) (l : List Opn) (w : World) (hv : Ns w v t) (hl : Ops w lv l) (hn : t.length ≤ 140737488355328) (ht : Tab w) :
  Calls Tryz.prog 9 #[v, lv] w fun e w' => e = .returned (.bool true) ∧ Fp Non w w' := by
 obtain ⟨ta, tc, rfl⟩ := hv.shape
 obtain ⟨al, cl, rfl⟩ := hl.shape
 obtain ⟨n, hnn⟩ : ∃ n, n = t.length := ⟨_, rfl⟩
 obtain ⟨z, hzz⟩ : ∃ z, z = l.length := ⟨_, rfl⟩
 have HX := zI (yI hnn hzz)
 rw [← hnn] at hv ⊢
 rw [← hzz] at hl ⊢
 clear hnn hzz
 have HN := zI hn
 have K0 := zI (Kp.and (Kp.fp (Fp.refl Non w)) (Kp.and (Kp.ns hv) (Kp.and (Kp.ops hl) (Kp.tab ht))))
 clear hv hl hn ht
 go_enter Tryz.func9, Tryz.ntmps9
 go_wp2_with fail
 refine (head8_c _ K0.out.now.2.2.2).mono ?_
 rintro e w1 ⟨rfl, hf⟩
 have K1 := zI (K0.out.later hf)
 clear K0
 clear hf
 have HGR := zI (Great_c _ t w1 K1.out.now.2.1 HN.out)
 go_wp2_with fail
 refine HGR.out.mono ?_
 rintro e w2 ⟨g, rfl, hg, hf⟩
 have K2 := zI (K1.out.later hf)
 clear K1
 have HG := zI hg
 clear hf hg HGR HN
 cases g with
 | true =>
  go_wp2
  go_ret
  exact ⟨rfl, K2.out.now.1⟩
 | false => ?_
 have HLF := zI (HG.out (by first | rfl | trivial))
 clear HG
 have HGO := zI (GreatOps_c _ l w2 K2.out.now.2.2.1)
 go_wp2_with fail
 refine HGO.out.mono ?_
 rintro e w3 ⟨g, rfl, hg, hf⟩
 have K3 := zI (K2.out.later hf)
 clear K2
 have HG := zI hg
 clear hf hg HGO
 cases g with
 | true =>
  go_wp2
  go_ret
  exact ⟨rfl, K3.out.now.1⟩
 | false => ?_
 have HOS := zI (HG.out (by first | rfl | trivial))
 clear HG
 have hz1 : z ≤ 40 := by rw [HX.out.2]; exact HOS.out.1
 go_wp2_with fail
 refine (mApply_c _ _ t l w3 K3.out.now.2.1 (few_sp HLF.out) K3.out.now.2.2.1 HOS.out.2 (by have := HOS.out.1; omega) K3.out.now.2.2.2).mono ?_
 rintro e w4 hm
 have hf := hm.fp
 obtain ⟨Aa, er, at_, RSa, xa, ya, hoa, rfl, hz, hq⟩ := hm.out (K3.out.later hf).now.2.1
 obtain ⟨xao, xac, rfl⟩ := hz.shape
 obtain ⟨yao, yac, rfl⟩ := hq.shape
 obtain ⟨na, hna⟩ : ∃ q, q = Aa.length := ⟨_, rfl⟩
 obtain ⟨ra, hra⟩ : ∃ q, q = RSa.length := ⟨_, rfl⟩
 rw [← hna] at hz ⊢
 rw [← hra] at hq ⊢
 have HA := zI (yI hna (yI hra hoa))
 clear hna hra hoa
 obtain ⟨ya, hya⟩ : ∃ y, y = Value.slice yao ra yac := ⟨_, rfl⟩
 have f0 := fp_alloc w4 (.cells #[.int .i64 er, .int .i64 at_, .slice yao ra yac] TDN)
 have r0 := heap_alloc_new w4 (.cells #[.int .i64 er, .int .i64 at_, .slice yao ra yac] TDN)
 clear hya
 have K4 := zI (Kp.and (Kp.row r0) (Kp.and (Kp.ns (hz.non f0)) (Kp.and (Kp.rrs (hq.non f0)) (K3.out.later (hf.then f0)))))
 clear K3
 clear hf f0 r0 hm hz hq
 go_upto_region 5 with (fail)
 generalize (World.alloc w4 _) = w4' at *
 generalize w4.heap.size = ba at *
 obtain ⟨a0, a1, a2⟩ := box3 K4.out.now.1
 clear a0 a1 a2
 go_wp2_with fail
 refine (rApplyM_c _ _ t l w4' K4.out.now.2.2.2.2.1 (few_sp HLF.out) K4.out.now.2.2.2.2.2.1 HOS.out.2 (by have := HOS.out.1; omega)).mono ?_
 rintro e w5 hm
 have hf := hm.fp
 obtain ⟨Ab, erb, atb, RSb, xb, yb, hob, rfl, hz, hq⟩ := hm.out (K4.out.later hf).now.2.2.2.2.1
 obtain ⟨rfl, rfl, rfl, rfl⟩ := HA.out.2.2.det hob
 obtain ⟨xbo, xbc, rfl⟩ := hz.shape
 obtain ⟨ybo, ybc, rfl⟩ := hq.shape
 rw [← HA.out.1] at hz ⊢
 rw [← HA.out.2.1] at hq ⊢
 have f0 := fp_alloc w5 (.cells #[.int .i64 er, .int .i64 at_, .slice ybo ra ybc] TDN)
 have r0 := heap_alloc_new w5 (.cells #[.int .i64 er, .int .i64 at_, .slice ybo ra ybc] TDN)
 have K5 := zI (Kp.and (Kp.row r0) (Kp.and (Kp.ns (hz.non f0)) (Kp.and (Kp.rrs (hq.non f0)) (K4.out.later (hf.then f0)))))
 clear K4
 clear hf f0 r0 hm hz hq hob
 go_upto_region 6 with (fail)
 generalize (World.alloc w5 _) = w5' at *
 generalize w5.heap.size = bb at *
 obtain ⟨bm, hbm⟩ : ∃ b, mayL l = b := ⟨_, rfl⟩
 have hbb : (bm == bm) = true := by cases bm <;> rfl
 have hfa := HA.out.2.2.few (by have := HLF.out.1; omega) (by have := HX.out.2; omega)
 have HFA := zI hfa
 clear hfa
 have HC := zI (hbm ▸ mMay_c _ l w5' K5.out.now.2.2.2.2.2.2.2.2.1 HOS.out.2 (by have := HOS.out.1; omega))
 go_wp2_with fail
 refine HC.out.mono ?_
 rintro e w6 ⟨rfl, hf⟩
 have K6 := zI (K5.out.later hf)
 clear K5
 clear hf HC
 have HC := zI (hbm ▸ rMayL_c _ l w6 K6.out.now.2.2.2.2.2.2.2.2.1 HOS.out.2 (by have := HOS.out.1; omega))
 go_wp2_with fail
 refine HC.out.mono ?_
 rintro e w7 ⟨rfl, hf⟩
 have K7 := zI (K6.out.later hf)
 clear K6
 clear hf HC
 have hsm := rSameN_c _ _ Aa Aa w7 K7.out.now.2.2.2.2.1 K7.out.now.2.1 (by have := HFA.out.1; omega) (by have := HFA.out.1; omega)
 rw [decide_eq_true rfl] at hsm
 have HC := zI (hsm)
 go_wp2_with fail
 refine HC.out.mono ?_
 rintro e w8 ⟨rfl, hf⟩
 have K8 := zI (K7.out.later hf)
 clear K7
 clear hf HC hsm
 obtain ⟨a0, a1, a2⟩ := box3 K8.out.now.2.2.2.1
 obtain ⟨b0, b1, b2⟩ := box3 K8.out.now.1
 have HC := zI (rSameDone_c er at_ (.slice yao ra yac) (.slice ybo ra ybc) w8 (fun w9 f => rSameListR_c _ _ RSa w9 (K8.out.later f).now.2.2.2.2.2.1 (K8.out.later f).now.2.2.1 (by have := HFA.out.2; omega)))
 go_wp2_with fail
 refine HC.out.mono ?_
 rintro e w9 ⟨rfl, hf⟩
 have K9 := zI (K8.out.later hf)
 clear K8
 clear hf HC a0 a1 a2 b0 b1 b2
 have HC := zI (mOf_c _ l w9 K9.out.now.2.2.2.2.2.2.2.2.1 HOS.out.2 (by have := HOS.out.1; omega))
 go_wp2_with fail
 refine HC.out.mono ?_
 rintro e w10 ⟨⟨va, rfl, hpa⟩, hf⟩
 have K10 := zI (Kp.and (show Kp (fun W => Sg pcC 8 W va (piecesOf l)) w10 from fun W f => (hpa.sg pcC_len).non f) (K9.out.later hf))
 clear K9
 clear hf HC hpa
 have HC := zI (rOfM_c _ l w10 K10.out.now.2.2.2.2.2.2.2.2.2.1 HOS.out.2 (by have := HOS.out.1; omega))
 go_wp2_with fail
 refine HC.out.mono ?_
 rintro e w11 ⟨⟨vb, rfl, hpb⟩, hf⟩
 have K11 := zI (Kp.and (show Kp (fun W => Sg pcC 8 W vb (piecesOf l)) w11 from fun W f => (hpb.sg pcC_len).non f) (K10.out.later hf))
 clear K10
 clear hf HC hpb
 have hpl : (piecesOf l).length ≤ 1000 := by
  have h1 := pieces_few l 0
  have h2 := HX.out.2
  unfold piecesOf
  split
  ·omega
  simp
 have HC := zI (rSamePieces_c va vb (piecesOf l) w11 K11.out.now.2.1 K11.out.now.1 hpl)
 go_wp2_with fail
 refine HC.out.mono ?_
 rintro e w12 ⟨rfl, hf⟩
 have K12 := zI (K11.out.later hf)
 clear K11
 clear hf HC hpl
 go_wp2
 go_ret
 exact ⟨rfl, K12.out.now.2.2.2.2.2.2.2.2.1⟩
end Go.Proofs.YtphoglepiegeiaaGreatDoor
namespace Go.Proofs.YtphoglepiegeiaaGreatDoor
open Go.RowKit Pm
theorem MultiTells_t (v : Value) (t : List Nd) (lv : Value) (l : List Opn) (w : World) (hv : Ns w v t) (hn : t.length ≤ 140737488355328) (hl : Ops w lv l) (_ : True) (ht : Tab w) :
  Calls Tryz.prog 9 #[v, lv] w fun e w' => e = .returned (.bool true) ∧ Fp Non w w' := MultiTells_c v lv t l w hv hl hn ht
set_option maxRecDepth 20000
open Go.ChangeShapes Go.WideShapes Go.ChangeAt Go.RowKit Pm Go.Deep
open Go.WideMaps Go.WideElems
open Go.ChangeMaps (setBlock shut_map_nil open_string shut_string)
section
variable {H : Type} {enc : TypeId × Value → H} {W : World}
end
end Go.Proofs.YtphoglepiegeiaaGreatDoor
