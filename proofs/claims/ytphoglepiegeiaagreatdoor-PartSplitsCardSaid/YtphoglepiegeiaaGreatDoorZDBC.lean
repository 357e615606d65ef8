/- A text of this proof. -/
import Derived.Test.YtphoglepiegeiaaGreatDoorZDB
import Derived.Test.YtphoglepiegeiaaGreatDoorZDBB
import Derived.Test.YtphoglepiegeiaaGreatDoorZDM
set_option linter.unusedSimpArgs false
set_option linter.unusedVariables false
namespace Go.Proofs.YtphoglepiegeiaaGreatDoor
set_option maxRecDepth 20000
open Go.RowKit Pm
set_option maxHeartbeats 8000000 in
theorem rKeep_c (v : Value) (l : List Nd) (w : World) (hv : Ns w v l) (hn : l.length ≤ 10000) :
  Calls Tryz.prog 33 #[v] w fun e w' => (∃ v', e = .returned v' ∧ Sto w' v' (keep l)) ∧ Fp Non w w' := by
 obtain ⟨ao, cap, rfl⟩ := hv.shape
 obtain ⟨n, hnn⟩ : ∃ n, n = l.length := ⟨_, rfl⟩
 have HX := Lib.hid (And.intro hnn (And.intro hv hn))
 have hnb : n ≤ 10000 := by omega
 rw [← hnn]
 have H0 : Hid (Kb (w.heap.size + 2) (w.heap.size + 1) (.slice none 0 0) (.slice none 0 0) ((l.take 0).map kn) (turnsOf (l.take 0)) ((w.alloc (.cells #[.slice none 0 0, .slice none 0 0] TST)).alloc (.cells #[.slice none 0 0, .slice none 0 0] TST)) ∧ Fp Non w ((w.alloc (.cells #[.slice none 0 0, .slice none 0 0] TST)).alloc (.cells #[.slice none 0 0, .slice none 0 0] TST)) ∧ ((w.alloc (.cells #[.slice none 0 0, .slice none 0 0] TST)).alloc (.cells #[.slice none 0 0, .slice none 0 0] TST)).heap[w.heap.size]? = some (.cells #[.slice none 0 0, .slice none 0 0] TST (0, 0))) := by
  refine ⟨⟨?_, Ow.nil _ _, OwT.nil _ _, fun e => by simp [Value.ownBlock] at e, fun e => by simp [Value.ownBlock] at e, fun k e => by simp [Value.ownBlock] at e⟩, ((Fp.refl Non w).alloc _).alloc _, (fp_alloc _ _).heap (heap_alloc_new w _) id⟩
  have := heap_alloc_new (w.alloc (.cells #[.slice none 0 0, .slice none 0 0] TST)) (.cells #[.slice none 0 0, .slice none 0 0] TST)
  simpa using this
 clear hv hn hnn
 go_enter Tryz.func33, Tryz.ntmps33
 go_wp2_with fail
 go_loopw [4] (fun i wr => ∃ k : Nat, k ≤ n ∧ i = .int .i64 k ∧ Hid (∃ vn vt, Kb (w.heap.size + 2) (w.heap.size + 1) vn vt ((l.take k).map kn) (turnsOf (l.take k)) wr ∧ Fp Non w wr ∧ wr.heap[w.heap.size]? = some (.cells #[.slice none 0 0, .slice none 0 0] TST (0, 0)))) (fun i _ => n - (RowKit.intOf i).toNat)
 case atStart => exact ⟨0, Nat.zero_le _, rfl, _, _, H0.out⟩
 clear H0
 obtain ⟨k, hk, rfl, hR⟩ := hrel
 rename_i wr _
 obtain ⟨vn, vt, hKb, hF, hZ⟩ := hR.out
 clear hR
 by_cases hlt : k < n
 ·have hkl : k < l.length := by rw [← HX.out.1]; exact hlt
  obtain ⟨g, og, cap', e9, _, _, _, hcell⟩ := HX.out.2.1.at (by omega)
  injection e9 with e1 e2 e3
  subst e1 e3
  have hnd := (hcell k hkl).keep hF id
  have htk : (l.take (k + 1)).map kn = (l.take k).map kn ++ [kn l[k]] := by rw [List.take_succ_eq_append_getElem hkl, List.map_append]; rfl
  have htt : turnsOf (l.take (k + 1)) = turnsOf (l.take k) ++ if l[k].turn ≠ 0 then [⟨l[k].path, l[k].turn⟩] else [] := by rw [List.take_succ_eq_append_getElem hkl, turnsOf_snoc]
  obtain ⟨x, hx⟩ : ∃ x, l[k] = x := ⟨_, rfl⟩
  rw [hx] at hnd htk htt
  obtain ⟨xp, xd, xv, xt, xo⟩ := x
  have hlk : ((l.take k).map kn).length ≤ 50000 := by rw [List.length_map, List.length_take]; have := HX.out.2.2; omega
  have hlt2 : (turnsOf (l.take k)).length ≤ 50000 := by
   unfold turnsOf; rw [List.length_map]; refine Nat.le_trans (List.length_filter_le _ _) ?_; rw [List.length_take]; have := HX.out.2.2; omega
  have HLK := Lib.hid (And.intro hlk hlt2)
  have HTK := Lib.hid (And.intro htk htt)
  have c0 := hnd.c0; have c1 := hnd.c1; have c2 := hnd.c2; have c3 := hnd.c3; have c4 := hnd.c4
  unfold strV at c0 c1
  simp only at c0 c1 c2 c3 c4
  have q3 : ((k : Int) < (n : Int)) = True := eq_true (by omega)
  have q4 : (k < n) = True := eq_true hlt
  have HL := Lib.hid hlt
  have HKb := Lib.hid (And.intro hKb (And.intro hF hZ))
  clear hcell hnd htk htt hx hkl hlk hlt2 hKb hF hZ hlt
  generalize (l.take k).map kn = Lk at *
  generalize turnsOf (l.take k) = Tk at *
  by_cases hxt : xt = 0
  ·have q5 : (xt != 0) = false := by simp [hxt]
   have HXT := Lib.hid hxt
   have hf1 := fp_alloc wr (.cells #[.string (B xp), .string (B xd), .int .i64 xv, .int .i64 0, .int .i64 xo] TN)
   have hap := app_kn (wr.alloc (.cells #[.string (B xp), .string (B xd), .int .i64 xv, .int .i64 0, .int .i64 xo] TN)) (w.heap.size + 2) vn Lk ⟨xp, xd, xv, 0, xo⟩ TL (HKb.out.1.own.non hf1) HLK.out.1 (by have h1 := HKb.out.1.lt; simp; omega)
   simp only at hap
   rw [show (wr.alloc (.cells #[.string (B xp), .string (B xd), .int .i64 xv, .int .i64 0, .int .i64 xo] TN)).heap.size = wr.heap.size + 1 from by simp] at hap
   have hf2 := hf1.then (fp_alloc (wr.alloc (.cells #[.string (B xp), .string (B xd), .int .i64 xv, .int .i64 0, .int .i64 xo] TN)) (.cells #[.string (B xp), .string (B xd), .int .i64 xv, .int .i64 0, .int .i64 xo] TN))
   have HF2 := Lib.hid hf2
   have m0 := (boxP2 HKb.out.1.blk).1
   have m1 := hf1.cell m0 id
   have m2 := hf2.cell m0 id
   have HAP := Lib.hid hap
   obtain ⟨an, cn, hsh⟩ := HKb.out.1.own.ns.shape
   subst hsh
   clear hap hf1 hf2 hxt
   go_wp2_with (at_builtin; go_must (refine wpList_app rfl _ _ _ _ rfl _ _ rfl rfl _ HAP.out ?_))
   intro v4 w4 hc
   have hK4 := HKb.out.1.putN HF2.out hc
   have hb4 := hc.fp.heap (HKb.out.1.non HF2.out).blk (fun e => HKb.out.1.neN e)
   have m4 := (boxP2 hb4).1
   have z4 := frozen_at hb4 0
   have hfs : Fp (fun j => j = w.heap.size + 1) w4 (w4.setCell ⟨w.heap.size + 1, 0, none⟩ v4) := (Fp.refl (fun j => j = w.heap.size + 1) w4).setCell (p := ⟨w.heap.size + 1, 0, none⟩) (.inl rfl) _
   have hfw := ((HKb.out.2.1.then HF2.out).trans hc.fp (fun j hj => .inr (by have := (World.ownsRow.lt HKb.out.1.own j hj).1; omega))).trans hfs (fun j hj => .inr (by omega))
   have hz4 := hfs.heap (hc.fp.heap (HF2.out.heap HKb.out.2.2 id) (fun e => by have := (World.ownsRow.lt HKb.out.1.own _ e).1; omega)) (fun e => by omega)
   have hM : Hid (∃ vn vt, Kb (w.heap.size + 2) (w.heap.size + 1) vn vt ((l.take (k + 1)).map kn) (turnsOf (l.take (k + 1))) (w4.setCell ⟨w.heap.size + 1, 0, none⟩ v4) ∧ Fp Non w (w4.setCell ⟨w.heap.size + 1, 0, none⟩ v4) ∧ (w4.setCell ⟨w.heap.size + 1, 0, none⟩ v4).heap[w.heap.size]? = some (.cells #[.slice none 0 0, .slice none 0 0] TST (0, 0))) := ⟨v4, vt, by rw [HTK.out.1, HTK.out.2, if_neg (by simpa using HXT.out), List.append_nil]; exact hK4, hfw, hz4⟩
   obtain ⟨a4, c4', hsh⟩ := hc.own.ns.shape
   obtain ⟨n4, hn4⟩ : ∃ n4, n4 = (Lk ++ [(⟨xp, xd, xv, 0, xo⟩ : Nd)]).length := ⟨_, rfl⟩
   rw [← hn4] at hsh
   subst hsh
   clear hc hK4 hb4 hfs hfw hz4 m0 m1 m2 c0 c1 c2 c3 c4 hn4
   have hj1 := HL.out
   go_wp2
   go_roundw
   case rel => exact ⟨k + 1, by omega, by go_num, hM⟩
   case measure => simp [RowKit.intOf]; omega
  have q5 : (xt != 0) = true := by simpa using hxt
  have q6 : (xt == 0) = false := by simpa using hxt
  have q7 : (xt = 0) = False := eq_false hxt
  have HXT := Lib.hid hxt
  have hf1 := fp_alloc wr (.cells #[.string (B xp), .string (B xd), .int .i64 xv, .int .i64 xt, .int .i64 xo] TN)
  have hap := app_tu (wr.alloc (.cells #[.string (B xp), .string (B xd), .int .i64 xv, .int .i64 xt, .int .i64 xo] TN)) (w.heap.size + 2) vt Tk ⟨xp, xt⟩ TUL (HKb.out.1.ownT.non hf1) HLK.out.2 (by have h1 := HKb.out.1.lt; simp; omega)
  simp only at hap
  rw [show (wr.alloc (.cells #[.string (B xp), .string (B xd), .int .i64 xv, .int .i64 xt, .int .i64 xo] TN)).heap.size = wr.heap.size + 1 from by simp] at hap
  have hf2 := hf1.then (fp_alloc (wr.alloc (.cells #[.string (B xp), .string (B xd), .int .i64 xv, .int .i64 xt, .int .i64 xo] TN)) (.cells #[.string (B xp), .int .i64 xt] TU))
  have HF2 := Lib.hid (And.intro hf2 ((fp_alloc (wr.alloc (.cells #[.string (B xp), .string (B xd), .int .i64 xv, .int .i64 xt, .int .i64 xo] TN)) (.cells #[.string (B xp), .int .i64 xt] TU)).heap (heap_alloc_new wr (.cells #[.string (B xp), .string (B xd), .int .i64 xv, .int .i64 xt, .int .i64 xo] TN)) id))
  have m0 := (boxP2 HKb.out.1.blk).2
  have m1 := hf1.cell m0 id
  have m2 := hf2.cell m0 id
  have HAP := Lib.hid hap
  obtain ⟨at_, ct, hsh⟩ := HKb.out.1.ownT.ns.shape
  subst hsh
  clear hap hf1 hf2 hxt
  go_wp2_with (at_builtin; go_must (refine wpList_app rfl _ _ _ _ rfl _ _ rfl rfl _ HAP.out ?_))
  intro v4 w4 hc
  have hK4 := HKb.out.1.putT HF2.out.1 hc
  have hwl := HKb.out.1.lt
  have hb4 := hc.fp.heap (HKb.out.1.non HF2.out.1).blk (fun e => HKb.out.1.neT e)
  have m4 := (boxP2 hb4).2
  have z4 := frozen_at hb4 1
  have hfs : Fp (fun j => j = w.heap.size + 1) w4 (w4.setCell ⟨w.heap.size + 1, 1, none⟩ v4) := (Fp.refl (fun j => j = w.heap.size + 1) w4).setCell (p := ⟨w.heap.size + 1, 1, none⟩) (.inl rfl) _
  have hfw := ((HKb.out.2.1.then HF2.out.1).trans hc.fp (fun j hj => .inr (by have := (World.ownsRow.lt HKb.out.1.ownT j hj).1; omega))).trans hfs (fun j hj => .inr (by omega))
  have hz4 := hfs.heap (hc.fp.heap (HF2.out.1.heap HKb.out.2.2 id) (fun e => by have := (World.ownsRow.lt HKb.out.1.ownT _ e).1; omega)) (fun e => by omega)
  have hx4 := hfs.heap (hc.fp.heap HF2.out.2 (fun e => by have := (World.ownsRow.lt HKb.out.1.ownT _ e).2; omega)) (fun e => by omega)
  have hnw : ∀ j, v4.ownBlock = some j → j ≠ wr.heap.size := fun j hj e => by
   rcases hc.new j hj with h | h
   ·have := (World.ownsRow.lt HKb.out.1.ownT _ h).2; omega
   simp at h; omega
  obtain ⟨a4, c4', hsh⟩ := hc.own.ns.shape
  obtain ⟨n4, hn4⟩ : ∃ n4, n4 = (Tk ++ [(⟨xp, xt⟩ : Tu)]).length := ⟨_, rfl⟩
  rw [← hn4] at hsh
  subst hsh
  have HNW := Lib.hid hnw
  have HK4 := Lib.hid (And.intro hK4 (And.intro hfw (And.intro hz4 (And.intro hx4 (show wr.heap.size < w4.heap.size from (Array.getElem?_eq_some_iff.1 (hc.fp.heap HF2.out.2 (fun e => by have := (World.ownsRow.lt HKb.out.1.ownT _ e).2; omega))).1)))))
  have HWL := Lib.hid hwl
  clear hc hb4 hfs hfw hz4 hK4 hx4 hnw m0 m1 m2 c0 c1 c2 c3 c4 hn4 hwl
  go_upto_region 8 with (fail)
  clear m4 z4
  generalize (w4.setCell ⟨w.heap.size + 1, 1, none⟩ _) = w5 at *
  obtain ⟨b0, b1, b2, b3, b4⟩ := box5 HK4.out.2.2.2.1
  have y3 := frozen_at HK4.out.2.2.2.1 3
  have hr6 := heap_setCell_same w5 wr.heap.size 3 _ TN (.int .i64 0) HK4.out.2.2.2.1
  have hf6 : Fp (fun j => j = wr.heap.size) w5 (w5.setCell ⟨wr.heap.size, 3, none⟩ (.int .i64 0)) := (Fp.refl (fun j => j = wr.heap.size) w5).setCell (p := ⟨wr.heap.size, 3, none⟩) (.inl rfl) _
  have hK6 := HK4.out.1.keep hf6 (fun e => by have := HWL.out; omega) (fun j hj e => by have := (World.ownsRow.lt HKb.out.1.own j hj).2; have e : j = wr.heap.size := e; omega) (fun j hj e => HNW.out j hj e)
  have hfa := fp_alloc (w5.setCell ⟨wr.heap.size, 3, none⟩ (.int .i64 0)) (.cells #[.string (B xp), .string (B xd), .int .i64 xv, .int .i64 0, .int .i64 xo] TN)
  have hap := app_kn (w5.setCell ⟨wr.heap.size, 3, none⟩ (.int .i64 0)) (w.heap.size + 2) vn Lk ⟨xp, xd, xv, 0, xo⟩ TL hK6.own HLK.out.1 (by have h1 := hK6.lt; omega)
  simp only at hap
  rw [show (w5.setCell ⟨wr.heap.size, 3, none⟩ (.int .i64 0)).heap.size = w5.heap.size from by simp [World.setCell]] at hap
  have HAP2 := Lib.hid hap
  have HF6 := Lib.hid (And.intro hfa (And.intro hK6 (And.intro ((HK4.out.2.1).trans hf6 (fun j hj => .inr (by have := HWL.out; have hj : j = wr.heap.size := hj; omega))) (hf6.heap HK4.out.2.2.1 (fun e => by have := HWL.out; have e : w.heap.size = wr.heap.size := e; omega)))))
  have m0 := (boxP2 HK4.out.1.blk).1
  have m6 := (boxP2 hK6.blk).1
  obtain ⟨d0, d1, d2, d3, d4⟩ := box5 hr6
  have nM : (w.heap.size + 1 = wr.heap.size) = False := eq_false (by have := HWL.out; omega)
  have nM2 : (wr.heap.size = w.heap.size + 1) = False := eq_false (by have := HWL.out; omega)
  have hsh := HKb.out.1.own.ns.shape
  clear hap hfa hK6 hf6 hr6 HAP
  obtain ⟨an, cn, hsh⟩ := hsh
  subst hsh
  go_wp2_with (at_builtin; go_must (refine wpList_app rfl _ _ _ _ rfl _ _ rfl rfl _ HAP2.out ?_))
  intro v7 w7 hc
  have hK7 := HF6.out.2.1.putN HF6.out.1 hc
  have hb7 := hc.fp.heap (HF6.out.2.1.non HF6.out.1).blk (fun e => HF6.out.2.1.neN e)
  have m7 := (boxP2 hb7).1
  have z7 := frozen_at hb7 0
  have hfs : Fp (fun j => j = w.heap.size + 1) w7 (w7.setCell ⟨w.heap.size + 1, 0, none⟩ v7) := (Fp.refl (fun j => j = w.heap.size + 1) w7).setCell (p := ⟨w.heap.size + 1, 0, none⟩) (.inl rfl) _
  have hfw := ((HF6.out.2.2.1.then HF6.out.1).trans hc.fp (fun j hj => .inr (by have := (World.ownsRow.lt HF6.out.2.1.own j hj).1; omega))).trans hfs (fun j hj => .inr (by omega))
  have hz7 := hfs.heap (hc.fp.heap (HF6.out.1.heap HF6.out.2.2.2 id) (fun e => by have := (World.ownsRow.lt HF6.out.2.1.own _ e).1; omega)) (fun e => by omega)
  have hM : Hid (∃ vn vt, Kb (w.heap.size + 2) (w.heap.size + 1) vn vt ((l.take (k + 1)).map kn) (turnsOf (l.take (k + 1))) (w7.setCell ⟨w.heap.size + 1, 0, none⟩ v7) ∧ Fp Non w (w7.setCell ⟨w.heap.size + 1, 0, none⟩ v7) ∧ (w7.setCell ⟨w.heap.size + 1, 0, none⟩ v7).heap[w.heap.size]? = some (.cells #[.slice none 0 0, .slice none 0 0] TST (0, 0))) := ⟨v7, _, by rw [HTK.out.1, HTK.out.2, if_pos HXT.out]; exact hK7, hfw, hz7⟩
  obtain ⟨a7, c7', hsh⟩ := hc.own.ns.shape
  obtain ⟨n7, hn7⟩ : ∃ n7, n7 = (Lk ++ [(⟨xp, xd, xv, 0, xo⟩ : Nd)]).length := ⟨_, rfl⟩
  rw [← hn7] at hsh
  subst hsh
  clear hc hK7 hb7 hfs hfw hz7 m0 m6 d0 d1 d2 d3 d4 b0 b1 b2 b3 b4 hn7 y3
  have hj1 := HL.out
  go_wp2
  go_roundw
  case rel => exact ⟨k + 1, by omega, by go_num, hM⟩
  case measure => simp [RowKit.intOf]; omega
 have hke : k = n := by omega
 subst hke
 have q3 : ((k : Int) < (k : Int)) = False := eq_false (by omega)
 have htl : l.take k = l := by rw [HX.out.1, List.take_length]
 rw [htl] at hKb
 have HF := Lib.hid (And.intro hKb (And.intro hF hZ))
 clear htl hlt hk
 obtain ⟨m0, m1⟩ := boxP2 hKb.blk
 obtain ⟨y0, y1⟩ := boxP2 hZ
 have z0 := frozen_at hZ 0; have z1 := frozen_at hZ 1
 have hset := two_set hZ vn vt
 have hfs : Fp (fun j => j = w.heap.size) wr ((wr.setCell ⟨w.heap.size, 0, none⟩ vn).setCell ⟨w.heap.size, 1, none⟩ vt) := ((Fp.refl (fun j => j = w.heap.size) wr).setCell (p := ⟨w.heap.size, 0, none⟩) (.inl rfl) vn).setCell (p := ⟨w.heap.size, 1, none⟩) (.inl rfl) vt
 have hE : Hid (Sto ((wr.setCell ⟨w.heap.size, 0, none⟩ vn).setCell ⟨w.heap.size, 1, none⟩ vt) (.agg #[vn, vt]) (Pm.keep l) ∧ Fp Non w ((wr.setCell ⟨w.heap.size, 0, none⟩ vn).setCell ⟨w.heap.size, 1, none⟩ vt)) := ⟨⟨vn, vt, rfl, hKb.own.ns.keep hfs (fun j hj e => by have := (World.ownsRow.lt hKb.own j hj).1; have e : j = w.heap.size := e; omega), hKb.ownT.ns.keep hfs (fun j hj e => by have := (World.ownsRow.lt hKb.ownT j hj).1; have e : j = w.heap.size := e; omega)⟩, hF.trans hfs (fun j hj => .inr (by omega))⟩
 have HS := Lib.hid hset
 obtain ⟨an, cn, hsh⟩ := hKb.own.ns.shape
 rw [List.length_map] at hsh
 subst hsh
 obtain ⟨at_, ct, hsh⟩ := hKb.ownT.ns.shape
 subst hsh
 clear hKb hF hZ hset hfs HF
 go_wp2
 have hs := HS.out
 have he := hE.out
 generalize ((World.setCell _ _ _).setCell _ _) = wz at *
 obtain ⟨t0, t1⟩ := boxP2 hs
 exact bodyPost_ret (v := .agg #[.slice an l.length cn, .slice at_ (turnsOf l).length ct]) (by simp [results, Tryz.results33, go_sem, t0, t1]) rfl ⟨⟨_, rfl, he.1⟩, he.2⟩
end Go.Proofs.YtphoglepiegeiaaGreatDoor
namespace Go.Proofs.YtphoglepiegeiaaGreatDoor
set_option maxRecDepth 20000
namespace Pm
def hd0 : List Nd := [⟨[47], [], 0, 0, 0⟩]
end Pm
namespace Pm
def hl0 : List Nd := [⟨[47], [], 0, 3, 0⟩]
def hlL : List Nd := [⟨[47], [], 0, 3, 0⟩, ⟨[47, 97], [], 0, 0, 0⟩]
def hlW : List Nd := [⟨[47], [], 0, 3, 0⟩, ⟨[47, 97], [], 0, 0, 0⟩, ⟨[47, 97, 47, 98], [120], 0, 0, 0⟩]
def hlP0 : Pt := ⟨1, [47], [47, 97], [], 0, 0, false⟩
def hlP1 : Pt := ⟨2, [47, 97], [47, 97, 47, 98], [120], 0, 0, false⟩
def hlS : St := ⟨[⟨[47], [], 0, 0, 0⟩, ⟨[47, 97], [], 0, 0, 0⟩], [⟨[47], 3⟩]⟩
def hlU : St := ⟨[⟨[47], [], 0, 0, 0⟩, ⟨[47, 97], [], 0, 0, 0⟩, ⟨[47, 97, 47, 98], [120], 0, 0, 0⟩], [⟨[47], 3⟩]⟩
theorem hl0_tr : Tr hl0 := (show Tree hl0 from ⟨by decide, by decide, rfl, rfl, by decide, fun i hi => absurd hi (by simp [hl0]), fun i hi hp => absurd hi (by simp [hl0]; omega)⟩).tr
theorem hlL_tr : Tr hlL := by
 have := perform_tr hl0_tr (o := ⟨1, [47, 97], [], 0, 0, false⟩) (by decide)
 rwa [show (perform hl0 ⟨1, [47, 97], [], 0, 0, false⟩).1 = hlL by decide] at this
theorem hlW_tr : Tr hlW := by
 have := perform_tr hlL_tr (o := ⟨1, [47, 97, 47, 98], [120], 0, 0, false⟩) (by decide)
 rwa [show (perform hlL ⟨1, [47, 97, 47, 98], [120], 0, 0, false⟩).1 = hlW by decide] at this
theorem hlS_eq : keep hlL = hlS := by decide
theorem hlU_eq : keep hlW = hlU := by decide
theorem hlS_right : StR hlS := by rw [← hlS_eq]; exact hlL_tr.store
theorem hlU_right : StR hlU := by rw [← hlU_eq]; exact hlW_tr.store
theorem hl_parts : partsOf ⟨1, [47, 97, 47, 98], [120], 0, 0, false⟩ = [hlP0, hlP1] := by decide
theorem hl_may0 : mayP hlP0 = true := by decide
theorem hl_may1 : mayP hlP1 = true := by decide
theorem hl_do0 : applyP hlS hlP0 = (hlS, okR) := by rw [applyP_yes hlS_right hl_may0]; decide
theorem hl_do1 : applyP hlS hlP1 = (hlU, ⟨0, [47, 97, 47, 98], [], 0, []⟩) := by rw [applyP_yes hlS_right hl_may1]; decide
theorem hl_do2 : applyP hlS ⟨0, [], [], [], 0, 0, false⟩ = (⟨[], []⟩, .bad 1) := applyP_no (by rintro ⟨_, h⟩; revert h; decide)
theorem hl_tree : TreeOf [hlU] hlW := by rw [← hlU_eq]; exact tree_keep hlW_tr
end Pm
end Go.Proofs.YtphoglepiegeiaaGreatDoor
