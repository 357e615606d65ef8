/- A text of this proof. -/
import Derived.StillTailTactics
import Derived.Test.YtphoglepiegeiaaGreatDoorZCC
import Derived.Test.YtphoglepiegeiaaGreatDoorZCP
set_option linter.unusedSimpArgs false
set_option linter.unusedVariables false
namespace Go.Proofs.YtphoglepiegeiaaGreatDoor
set_option maxRecDepth 20000
open Go.RowKit Pm
attribute [local irreducible] wpStill
set_option maxHeartbeats 4000000 in
theorem guard_e {lo b : Nat} {vn vt : Value} {s : St} {w : World} (h : Sw lo b vn vt s w) (x : Pt) (hst : StR s) (hm : mayP x = true) (hn : s.nodes.length ≤ 3900) (hnt : s.turns.length ≤ 3900) (ht : Tab w) (hk : x.kind = 1) :
  Calls Tryz.prog 87 #[.pointer (some ⟨b, 0, none⟩), ptV x] w (PmR lo b vn vt (doP s x).1 (doP s x).2 w) := by
 have hp : x.path.length ≤ 100 := split_len ((mayP_iff x).1 hm).2.1
 obtain ⟨k, d, p, da, v, o, t⟩ := x
 obtain rfl : k = 1 := hk
 simp only at hp
 have hf0 : Fp Non w ((w.alloc (.cells #[.int .i64 1, .string (B d), .string (B p), .string (B da), .int .i64 v, .int .i64 o, .bool t] TP)).alloc (.cells #[.int .i64 0, .string ⟨#[]⟩, .string ⟨#[]⟩, .int .i64 0, .slice none 0 0] TR)) := ((Fp.refl Non w).alloc _).alloc _
 have K0 := zI (Kp.and (Kp.sw (h.non hf0)) (Kp.and (Kp.bp (Bp.made w 1 d p da v o t)) (Kp.and (Kp.fp hf0) (Kp.tab (ht.non hf0)))))
 have HX := zI (yI h (yI hst (yI hm (yI hn hnt))))
 have hpt : ptV ⟨1, d, p, da, v, o, t⟩ = .agg #[.int .i64 1, .string (B d), .string (B p), .string (B da), .int .i64 v, .int .i64 o, .bool t] := rfl
 cases hf : find s.nodes p with
 | none =>
  have e : doP s ⟨1, d, p, da, v, o, t⟩ = (s, .bad 62) := by unfold doP; simp [hf]
  rw [e]
  have hs := fun W (hW : Sw lo b vn vt s W) => node_none hW ⟨1, d, p, da, v, o, t⟩ hst.asc (by omega) hf
  rw [hpt] at hs
  have HS := zI hs
  clear hs
  clear hf0 h ht hst hm hn hnt hp hf e
  rw [hpt]
  clear hpt
  go_enter Tryz.func87, Tryz.ntmps87
  generalize hW0 : ((w.alloc (.cells #[.int .i64 1, .string (B d), .string (B p), .string (B da), .int .i64 v, .int .i64 o, .bool t] TP)).alloc (.cells #[.int .i64 0, .string ⟨#[]⟩, .string ⟨#[]⟩, .int .i64 0, .slice none 0 0] TR)) = W0 at *
  obtain ⟨o0, o1, o2, o3, o4, o5, o6⟩ := boxP7 K0.out.now.2.1.op
  go_wp2_with fail
  clear hW0
  refine (HS.out _ K0.out.now.1).mono ?_
  rintro e w1 ⟨rfl, hf⟩
  have K1 := zI (K0.out.later hf)
  clear hf
  clear o0 o1 o2 o3 o4 o5 o6
  go_wp2_with fail
  refine (refusedP_c 62 _).mono ?_
  rintro e w9 ⟨rfl, hf⟩
  have K9 := zI (K1.out.later hf)
  clear hf
  unfold badV
  have hbr := (Chd.still HX.out.1 K9.out.now.1 K9.out.now.2.1 K9.out.now.2.2.1).bp
  obtain ⟨r0, r1, r2, r3, r4⟩ := hbr.r
  have z0 := hbr.fz 0; have z1 := hbr.fz 1; have z2 := hbr.fz 2; have z3 := hbr.fz 3; have z4 := hbr.fz 4
  have HP := zI ((Chd.still HX.out.1 K9.out.now.1 K9.out.now.2.1 K9.out.now.2.2.1).done (.bad 62) (.slice none 0 0) (Own.nil _ _) (fun e => by simp [Value.ownBlock] at e) (62) (⟨#[]⟩) (⟨#[]⟩) (0) rfl rfl rfl rfl)
  have HW9 := zI (set5 hbr.res (.int .i64 62) (.string ⟨#[]⟩) (.string ⟨#[]⟩) (.int .i64 0) (.slice none 0 0))
  clear hbr
  go_wp2
  have hw9 := HW9.out
  have hp9 := HP.out
  generalize (((((World.setCell _ _ _).setCell _ _).setCell _ _).setCell _ _).setCell _ _) = wz at *
  obtain ⟨s0, s1, s2, s3, s4⟩ := b5 hw9
  exact bodyPost_ret (v := .agg #[.int .i64 62, .string ⟨#[]⟩, .string ⟨#[]⟩, .int .i64 0, .slice none 0 0]) (by simp [results, Tryz.results87, go_sem, s0, s1, s2, s3, s4]) rfl hp9
 | some y => ?_
 by_cases ho : y.own = 0
 ·have e : doP s ⟨1, d, p, da, v, o, t⟩ = (s, okR) := by unfold doP; simp [hf, versionedP, ho]
  rw [e]
  have hs := fun W (hW : Sw lo b vn vt s W) => node_some hW ⟨1, d, p, da, v, o, t⟩ hst.asc (by omega) hf
  rw [hpt] at hs
  simp only at hs
  obtain ⟨q, hq⟩ : ∃ q, q = place s.nodes p := ⟨_, rfl⟩
  rw [← hq] at hs
  have HS := zI hs
  clear hs
  obtain ⟨yp, yd, yv, yt, yo⟩ := y
  simp only at ho
  subst ho
  clear hf0 h ht hst hm hn hnt hp hf e hq
  rw [hpt]
  clear hpt
  go_enter Tryz.func87, Tryz.ntmps87
  generalize hW0 : ((w.alloc (.cells #[.int .i64 1, .string (B d), .string (B p), .string (B da), .int .i64 v, .int .i64 o, .bool t] TP)).alloc (.cells #[.int .i64 0, .string ⟨#[]⟩, .string ⟨#[]⟩, .int .i64 0, .slice none 0 0] TR)) = W0 at *
  obtain ⟨o0, o1, o2, o3, o4, o5, o6⟩ := boxP7 K0.out.now.2.1.op
  go_wp2_with fail
  clear hW0
  refine (HS.out _ K0.out.now.1).mono ?_
  rintro e w1 ⟨G, hG, hnd, rfl, hf⟩
  have K1 := zI (K0.out.later hf)
  have HN1 := zI (yI hG (hnd.keep hf id))
  clear hnd hG
  clear hf
  clear o0 o1 o2 o3 o4 o5 o6
  have c0 := HN1.out.2.c0; have c1 := HN1.out.2.c1; have c2 := HN1.out.2.c2; have c3 := HN1.out.2.c3; have c4 := HN1.out.2.c4
  unfold strV at c0 c1
  simp only at c0 c1 c2 c3 c4
  have hbr := (Chd.still HX.out.1 K1.out.now.1 K1.out.now.2.1 K1.out.now.2.2.1).bp
  obtain ⟨r0, r1, r2, r3, r4⟩ := hbr.r
  have z0 := hbr.fz 0; have z1 := hbr.fz 1; have z2 := hbr.fz 2; have z3 := hbr.fz 3; have z4 := hbr.fz 4
  have HP := zI ((Chd.still HX.out.1 K1.out.now.1 K1.out.now.2.1 K1.out.now.2.2.1).done okR (.slice none 0 0) (Own.nil _ _) (fun e => by simp [Value.ownBlock] at e) (0) (⟨#[]⟩) (⟨#[]⟩) (0) rfl rfl rfl rfl)
  have HW9 := zI (set5 hbr.res (.int .i64 0) (.string ⟨#[]⟩) (.string ⟨#[]⟩) (.int .i64 0) (.slice none 0 0))
  clear hbr
  go_wp2
  have hw9 := HW9.out
  have hp9 := HP.out
  generalize (((((World.setCell _ _ _).setCell _ _).setCell _ _).setCell _ _).setCell _ _) = wz at *
  obtain ⟨s0, s1, s2, s3, s4⟩ := b5 hw9
  exact bodyPost_ret (v := .agg #[.int .i64 0, .string ⟨#[]⟩, .string ⟨#[]⟩, .int .i64 0, .slice none 0 0]) (by simp [results, Tryz.results87, go_sem, s0, s1, s2, s3, s4]) rfl hp9
 have e : doP s ⟨1, d, p, da, v, o, t⟩ = (s, .bad 65) := by unfold doP; simp [hf, versionedP, ho]
 rw [e]
 have q1 : (y.own != 0) = true := by simpa using ho
 have q2 : (y.own == 0) = false := by simpa using ho
 have q3 : (y.own = 0) = False := eq_false ho
 have hs := fun W (hW : Sw lo b vn vt s W) => node_some hW ⟨1, d, p, da, v, o, t⟩ hst.asc (by omega) hf
 rw [hpt] at hs
 simp only at hs
 obtain ⟨q, hq⟩ : ∃ q, q = place s.nodes p := ⟨_, rfl⟩
 rw [← hq] at hs
 have HS := zI hs
 clear hs
 clear hf0 h ht hst hm hn hnt hp hf e hq ho
 rw [hpt]
 clear hpt
 go_enter Tryz.func87, Tryz.ntmps87
 generalize hW0 : ((w.alloc (.cells #[.int .i64 1, .string (B d), .string (B p), .string (B da), .int .i64 v, .int .i64 o, .bool t] TP)).alloc (.cells #[.int .i64 0, .string ⟨#[]⟩, .string ⟨#[]⟩, .int .i64 0, .slice none 0 0] TR)) = W0 at *
 obtain ⟨o0, o1, o2, o3, o4, o5, o6⟩ := boxP7 K0.out.now.2.1.op
 go_wp2_with fail
 clear hW0
 refine (HS.out _ K0.out.now.1).mono ?_
 rintro e w1 ⟨G, hG, hnd, rfl, hf⟩
 have K1 := zI (K0.out.later hf)
 have HN1 := zI (yI hG (hnd.keep hf id))
 clear hnd hG
 clear hf
 clear o0 o1 o2 o3 o4 o5 o6
 have c0 := HN1.out.2.c0; have c1 := HN1.out.2.c1; have c2 := HN1.out.2.c2; have c3 := HN1.out.2.c3; have c4 := HN1.out.2.c4
 unfold strV at c0 c1
 go_wp2_with fail
 refine (refusedP_c 65 _).mono ?_
 rintro e w9 ⟨rfl, hf⟩
 have K9 := zI (K1.out.later hf)
 clear hf
 unfold badV
 have hbr := (Chd.still HX.out.1 K9.out.now.1 K9.out.now.2.1 K9.out.now.2.2.1).bp
 obtain ⟨r0, r1, r2, r3, r4⟩ := hbr.r
 have z0 := hbr.fz 0; have z1 := hbr.fz 1; have z2 := hbr.fz 2; have z3 := hbr.fz 3; have z4 := hbr.fz 4
 have HP := zI ((Chd.still HX.out.1 K9.out.now.1 K9.out.now.2.1 K9.out.now.2.2.1).done (.bad 65) (.slice none 0 0) (Own.nil _ _) (fun e => by simp [Value.ownBlock] at e) (65) (⟨#[]⟩) (⟨#[]⟩) (0) rfl rfl rfl rfl)
 have HW9 := zI (set5 hbr.res (.int .i64 65) (.string ⟨#[]⟩) (.string ⟨#[]⟩) (.int .i64 0) (.slice none 0 0))
 clear hbr
 go_wp2
 have hw9 := HW9.out
 have hp9 := HP.out
 generalize (((((World.setCell _ _ _).setCell _ _).setCell _ _).setCell _ _).setCell _ _) = wz at *
 obtain ⟨s0, s1, s2, s3, s4⟩ := b5 hw9
 exact bodyPost_ret (v := .agg #[.int .i64 65, .string ⟨#[]⟩, .string ⟨#[]⟩, .int .i64 0, .slice none 0 0]) (by simp [results, Tryz.results87, go_sem, s0, s1, s2, s3, s4]) rfl hp9
set_option maxHeartbeats 4000000 in
theorem has_e {lo b : Nat} {vn vt : Value} {s : St} {w : World} (h : Sw lo b vn vt s w) (x : Pt) (hst : StR s) (hm : mayP x = true) (hn : s.nodes.length ≤ 3900) (hnt : s.turns.length ≤ 3900) (ht : Tab w) (hk : x.kind = 8) :
  Calls Tryz.prog 94 #[.pointer (some ⟨b, 0, none⟩), ptV x] w (PmR lo b vn vt (doP s x).1 (doP s x).2 w) := by
 have hp : x.path.length ≤ 100 := split_len ((mayP_iff x).1 hm).2.1
 obtain ⟨k, d, p, da, v, o, t⟩ := x
 obtain rfl : k = 8 := hk
 simp only at hp
 have hf0 : Fp Non w ((w.alloc (.cells #[.int .i64 8, .string (B d), .string (B p), .string (B da), .int .i64 v, .int .i64 o, .bool t] TP)).alloc (.cells #[.int .i64 0, .string ⟨#[]⟩, .string ⟨#[]⟩, .int .i64 0, .slice none 0 0] TR)) := ((Fp.refl Non w).alloc _).alloc _
 have K0 := zI (Kp.and (Kp.sw (h.non hf0)) (Kp.and (Kp.bp (Bp.made w 8 d p da v o t)) (Kp.and (Kp.fp hf0) (Kp.tab (ht.non hf0)))))
 have HX := zI (yI h (yI hst (yI hm (yI hn hnt))))
 have hpt : ptV ⟨8, d, p, da, v, o, t⟩ = .agg #[.int .i64 8, .string (B d), .string (B p), .string (B da), .int .i64 v, .int .i64 o, .bool t] := rfl
 cases hf : find s.nodes p with
 | none =>
  have e : doP s ⟨8, d, p, da, v, o, t⟩ = (s, .bad 62) := by unfold doP; simp [hf]
  rw [e]
  have hs := fun W (hW : Sw lo b vn vt s W) => node_none hW ⟨8, d, p, da, v, o, t⟩ hst.asc (by omega) hf
  rw [hpt] at hs
  have HS := zI hs
  clear hs
  clear hf0 h ht hst hm hn hnt hp hf e
  rw [hpt]
  clear hpt
  go_enter Tryz.func94, Tryz.ntmps94
  generalize hW0 : ((w.alloc (.cells #[.int .i64 8, .string (B d), .string (B p), .string (B da), .int .i64 v, .int .i64 o, .bool t] TP)).alloc (.cells #[.int .i64 0, .string ⟨#[]⟩, .string ⟨#[]⟩, .int .i64 0, .slice none 0 0] TR)) = W0 at *
  obtain ⟨o0, o1, o2, o3, o4, o5, o6⟩ := boxP7 K0.out.now.2.1.op
  go_wp2_with fail
  clear hW0
  refine (HS.out _ K0.out.now.1).mono ?_
  rintro e w1 ⟨rfl, hf⟩
  have K1 := zI (K0.out.later hf)
  clear hf
  clear o0 o1 o2 o3 o4 o5 o6
  have hbr := (Chd.still HX.out.1 K1.out.now.1 K1.out.now.2.1 K1.out.now.2.2.1).bp
  obtain ⟨r0, r1, r2, r3, r4⟩ := hbr.r
  have z0 := hbr.fz 0; have z1 := hbr.fz 1; have z2 := hbr.fz 2; have z3 := hbr.fz 3; have z4 := hbr.fz 4
  have HP := zI ((Chd.still HX.out.1 K1.out.now.1 K1.out.now.2.1 K1.out.now.2.2.1).done (.bad 62) (.slice none 0 0) (Own.nil _ _) (fun e => by simp [Value.ownBlock] at e) (62) (⟨#[]⟩) (⟨#[]⟩) (0) rfl rfl rfl rfl)
  have HW9 := zI (set5 hbr.res (.int .i64 62) (.string ⟨#[]⟩) (.string ⟨#[]⟩) (.int .i64 0) (.slice none 0 0))
  clear hbr
  go_wp2
  have hw9 := HW9.out
  have hp9 := HP.out
  generalize (((((World.setCell _ _ _).setCell _ _).setCell _ _).setCell _ _).setCell _ _) = wz at *
  obtain ⟨s0, s1, s2, s3, s4⟩ := b5 hw9
  exact bodyPost_ret (v := .agg #[.int .i64 62, .string ⟨#[]⟩, .string ⟨#[]⟩, .int .i64 0, .slice none 0 0]) (by simp [results, Tryz.results94, go_sem, s0, s1, s2, s3, s4]) rfl hp9
 | some y => ?_
 have e : doP s ⟨8, d, p, da, v, o, t⟩ = (s, okR) := by unfold doP; simp [hf, versionedP]
 rw [e]
 have hs := fun W (hW : Sw lo b vn vt s W) => node_some hW ⟨8, d, p, da, v, o, t⟩ hst.asc (by omega) hf
 rw [hpt] at hs
 simp only at hs
 obtain ⟨q, hq⟩ : ∃ q, q = place s.nodes p := ⟨_, rfl⟩
 rw [← hq] at hs
 have HS := zI hs
 clear hs
 clear hf0 h ht hst hm hn hnt hp hf e hq
 rw [hpt]
 clear hpt
 go_enter Tryz.func94, Tryz.ntmps94
 generalize hW0 : ((w.alloc (.cells #[.int .i64 8, .string (B d), .string (B p), .string (B da), .int .i64 v, .int .i64 o, .bool t] TP)).alloc (.cells #[.int .i64 0, .string ⟨#[]⟩, .string ⟨#[]⟩, .int .i64 0, .slice none 0 0] TR)) = W0 at *
 obtain ⟨o0, o1, o2, o3, o4, o5, o6⟩ := boxP7 K0.out.now.2.1.op
 go_wp2_with fail
 clear hW0
 refine (HS.out _ K0.out.now.1).mono ?_
 rintro e w1 ⟨G, hG, hnd, rfl, hf⟩
 have K1 := zI (K0.out.later hf)
 have HN1 := zI (yI hG (hnd.keep hf id))
 clear hnd hG
 clear hf
 clear o0 o1 o2 o3 o4 o5 o6
 have hbr := (Chd.still HX.out.1 K1.out.now.1 K1.out.now.2.1 K1.out.now.2.2.1).bp
 obtain ⟨r0, r1, r2, r3, r4⟩ := hbr.r
 have z0 := hbr.fz 0; have z1 := hbr.fz 1; have z2 := hbr.fz 2; have z3 := hbr.fz 3; have z4 := hbr.fz 4
 have HP := zI ((Chd.still HX.out.1 K1.out.now.1 K1.out.now.2.1 K1.out.now.2.2.1).done okR (.slice none 0 0) (Own.nil _ _) (fun e => by simp [Value.ownBlock] at e) (0) (⟨#[]⟩) (⟨#[]⟩) (0) rfl rfl rfl rfl)
 have HW9 := zI (set5 hbr.res (.int .i64 0) (.string ⟨#[]⟩) (.string ⟨#[]⟩) (.int .i64 0) (.slice none 0 0))
 clear hbr
 go_wp2
 have hw9 := HW9.out
 have hp9 := HP.out
 generalize (((((World.setCell _ _ _).setCell _ _).setCell _ _).setCell _ _).setCell _ _) = wz at *
 obtain ⟨s0, s1, s2, s3, s4⟩ := b5 hw9
 exact bodyPost_ret (v := .agg #[.int .i64 0, .string ⟨#[]⟩, .string ⟨#[]⟩, .int .i64 0, .slice none 0 0]) (by simp [results, Tryz.results94, go_sem, s0, s1, s2, s3, s4]) rfl hp9
set_option maxHeartbeats 4000000 in
theorem look_e {lo b : Nat} {vn vt : Value} {s : St} {w : World} (h : Sw lo b vn vt s w) (x : Pt) (hst : StR s) (hm : mayP x = true) (hn : s.nodes.length ≤ 3900) (hnt : s.turns.length ≤ 3900) (ht : Tab w) (hk : x.kind = 6) :
  Calls Tryz.prog 92 #[.pointer (some ⟨b, 0, none⟩), ptV x] w (PmR lo b vn vt (doP s x).1 (doP s x).2 w) := by
 have hp : x.path.length ≤ 100 := split_len ((mayP_iff x).1 hm).2.1
 obtain ⟨k, d, p, da, v, o, t⟩ := x
 obtain rfl : k = 6 := hk
 simp only at hp
 have hf0 : Fp Non w ((w.alloc (.cells #[.int .i64 6, .string (B d), .string (B p), .string (B da), .int .i64 v, .int .i64 o, .bool t] TP)).alloc (.cells #[.int .i64 0, .string ⟨#[]⟩, .string ⟨#[]⟩, .int .i64 0, .slice none 0 0] TR)) := ((Fp.refl Non w).alloc _).alloc _
 have K0 := zI (Kp.and (Kp.sw (h.non hf0)) (Kp.and (Kp.bp (Bp.made w 6 d p da v o t)) (Kp.and (Kp.fp hf0) (Kp.tab (ht.non hf0)))))
 have HX := zI (yI h (yI hst (yI hm (yI hn hnt))))
 have hpt : ptV ⟨6, d, p, da, v, o, t⟩ = .agg #[.int .i64 6, .string (B d), .string (B p), .string (B da), .int .i64 v, .int .i64 o, .bool t] := rfl
 cases hf : find s.nodes p with
 | none =>
  have e : doP s ⟨6, d, p, da, v, o, t⟩ = (s, .bad 62) := by unfold doP; simp [hf]
  rw [e]
  have hs := fun W (hW : Sw lo b vn vt s W) => versioned_none hW ⟨6, d, p, da, v, o, t⟩ hst.asc (by omega) hf
  rw [hpt] at hs
  have HS := zI hs
  clear hs
  clear hf0 h ht hst hm hn hnt hp hf e
  rw [hpt]
  clear hpt
  go_enter Tryz.func92, Tryz.ntmps92
  generalize hW0 : ((w.alloc (.cells #[.int .i64 6, .string (B d), .string (B p), .string (B da), .int .i64 v, .int .i64 o, .bool t] TP)).alloc (.cells #[.int .i64 0, .string ⟨#[]⟩, .string ⟨#[]⟩, .int .i64 0, .slice none 0 0] TR)) = W0 at *
  obtain ⟨o0, o1, o2, o3, o4, o5, o6⟩ := boxP7 K0.out.now.2.1.op
  go_wp2_with fail
  clear hW0
  refine (HS.out _ K0.out.now.1).mono ?_
  rintro e w1 ⟨rfl, hf⟩
  have K1 := zI (K0.out.later hf)
  clear hf
  clear o0 o1 o2 o3 o4 o5 o6
  go_wp2_with fail
  refine (refusedP_c 62 _).mono ?_
  rintro e w9 ⟨rfl, hf⟩
  have K9 := zI (K1.out.later hf)
  clear hf
  unfold badV
  have hbr := (Chd.still HX.out.1 K9.out.now.1 K9.out.now.2.1 K9.out.now.2.2.1).bp
  obtain ⟨r0, r1, r2, r3, r4⟩ := hbr.r
  have z0 := hbr.fz 0; have z1 := hbr.fz 1; have z2 := hbr.fz 2; have z3 := hbr.fz 3; have z4 := hbr.fz 4
  have HP := zI ((Chd.still HX.out.1 K9.out.now.1 K9.out.now.2.1 K9.out.now.2.2.1).done (.bad 62) (.slice none 0 0) (Own.nil _ _) (fun e => by simp [Value.ownBlock] at e) (62) (⟨#[]⟩) (⟨#[]⟩) (0) rfl rfl rfl rfl)
  have HW9 := zI (set5 hbr.res (.int .i64 62) (.string ⟨#[]⟩) (.string ⟨#[]⟩) (.int .i64 0) (.slice none 0 0))
  clear hbr
  go_wp2
  have hw9 := HW9.out
  have hp9 := HP.out
  generalize (((((World.setCell _ _ _).setCell _ _).setCell _ _).setCell _ _).setCell _ _) = wz at *
  obtain ⟨s0, s1, s2, s3, s4⟩ := b5 hw9
  exact bodyPost_ret (v := .agg #[.int .i64 62, .string ⟨#[]⟩, .string ⟨#[]⟩, .int .i64 0, .slice none 0 0]) (by simp [results, Tryz.results92, go_sem, s0, s1, s2, s3, s4]) rfl hp9
 | some y => ?_
 by_cases hv : 0 ≤ v ∧ v ≠ y.ver
 ·have e : doP s ⟨6, d, p, da, v, o, t⟩ = (s, .bad 63) := by unfold doP; simp [hf, versionedP, hv]
  rw [e]
  have hs := fun W (hW : Sw lo b vn vt s W) => versioned_bad hW ⟨6, d, p, da, v, o, t⟩ hst.asc (by omega) hf hv
  rw [hpt] at hs
  have HS := zI hs
  clear hs
  clear hf0 h ht hst hm hn hnt hp hf e hv
  rw [hpt]
  clear hpt
  go_enter Tryz.func92, Tryz.ntmps92
  generalize hW0 : ((w.alloc (.cells #[.int .i64 6, .string (B d), .string (B p), .string (B da), .int .i64 v, .int .i64 o, .bool t] TP)).alloc (.cells #[.int .i64 0, .string ⟨#[]⟩, .string ⟨#[]⟩, .int .i64 0, .slice none 0 0] TR)) = W0 at *
  obtain ⟨o0, o1, o2, o3, o4, o5, o6⟩ := boxP7 K0.out.now.2.1.op
  go_wp2_with fail
  clear hW0
  refine (HS.out _ K0.out.now.1).mono ?_
  rintro e w1 ⟨rfl, hf⟩
  have K1 := zI (K0.out.later hf)
  clear hf
  clear o0 o1 o2 o3 o4 o5 o6
  go_wp2_with fail
  refine (refusedP_c 63 _).mono ?_
  rintro e w9 ⟨rfl, hf⟩
  have K9 := zI (K1.out.later hf)
  clear hf
  unfold badV
  have hbr := (Chd.still HX.out.1 K9.out.now.1 K9.out.now.2.1 K9.out.now.2.2.1).bp
  obtain ⟨r0, r1, r2, r3, r4⟩ := hbr.r
  have z0 := hbr.fz 0; have z1 := hbr.fz 1; have z2 := hbr.fz 2; have z3 := hbr.fz 3; have z4 := hbr.fz 4
  have HP := zI ((Chd.still HX.out.1 K9.out.now.1 K9.out.now.2.1 K9.out.now.2.2.1).done (.bad 63) (.slice none 0 0) (Own.nil _ _) (fun e => by simp [Value.ownBlock] at e) (63) (⟨#[]⟩) (⟨#[]⟩) (0) rfl rfl rfl rfl)
  have HW9 := zI (set5 hbr.res (.int .i64 63) (.string ⟨#[]⟩) (.string ⟨#[]⟩) (.int .i64 0) (.slice none 0 0))
  clear hbr
  go_wp2
  have hw9 := HW9.out
  have hp9 := HP.out
  generalize (((((World.setCell _ _ _).setCell _ _).setCell _ _).setCell _ _).setCell _ _) = wz at *
  obtain ⟨s0, s1, s2, s3, s4⟩ := b5 hw9
  exact bodyPost_ret (v := .agg #[.int .i64 63, .string ⟨#[]⟩, .string ⟨#[]⟩, .int .i64 0, .slice none 0 0]) (by simp [results, Tryz.results92, go_sem, s0, s1, s2, s3, s4]) rfl hp9
 have e : doP s ⟨6, d, p, da, v, o, t⟩ = (s, ⟨0, [], [], y.ver, []⟩) := by unfold doP; simp [hf, versionedP, hv]
 rw [e]
 have hs := fun W (hW : Sw lo b vn vt s W) => versioned_ok hW ⟨6, d, p, da, v, o, t⟩ hst.asc (by omega) hf hv
 rw [hpt] at hs
 simp only at hs
 obtain ⟨q, hq⟩ : ∃ q, q = place s.nodes p := ⟨_, rfl⟩
 rw [← hq] at hs
 have HS := zI hs
 clear hs
 clear hf0 h ht hst hm hn hnt hp hf e hq hv
 rw [hpt]
 clear hpt
 go_enter Tryz.func92, Tryz.ntmps92
 generalize hW0 : ((w.alloc (.cells #[.int .i64 6, .string (B d), .string (B p), .string (B da), .int .i64 v, .int .i64 o, .bool t] TP)).alloc (.cells #[.int .i64 0, .string ⟨#[]⟩, .string ⟨#[]⟩, .int .i64 0, .slice none 0 0] TR)) = W0 at *
 obtain ⟨o0, o1, o2, o3, o4, o5, o6⟩ := boxP7 K0.out.now.2.1.op
 go_wp2_with fail
 clear hW0
 refine (HS.out _ K0.out.now.1).mono ?_
 rintro e w1 ⟨G, hG, hnd, rfl, hf⟩
 have K1 := zI (K0.out.later hf)
 have HN1 := zI (yI hG (hnd.keep hf id))
 clear hnd hG
 clear hf
 clear o0 o1 o2 o3 o4 o5 o6
 have c0 := HN1.out.2.c0; have c1 := HN1.out.2.c1; have c2 := HN1.out.2.c2; have c3 := HN1.out.2.c3; have c4 := HN1.out.2.c4
 unfold strV at c0 c1
 have hbr := (Chd.still HX.out.1 K1.out.now.1 K1.out.now.2.1 K1.out.now.2.2.1).bp
 obtain ⟨r0, r1, r2, r3, r4⟩ := hbr.r
 have z0 := hbr.fz 0; have z1 := hbr.fz 1; have z2 := hbr.fz 2; have z3 := hbr.fz 3; have z4 := hbr.fz 4
 have HP := zI ((Chd.still HX.out.1 K1.out.now.1 K1.out.now.2.1 K1.out.now.2.2.1).done ⟨0, [], [], y.ver, []⟩ (.slice none 0 0) (Own.nil _ _) (fun e => by simp [Value.ownBlock] at e) (0) (⟨#[]⟩) (⟨#[]⟩) (y.ver) rfl rfl rfl rfl)
 have HW9 := zI (set5 hbr.res (.int .i64 0) (.string ⟨#[]⟩) (.string ⟨#[]⟩) (.int .i64 y.ver) (.slice none 0 0))
 clear hbr
 go_wp2
 have hw9 := HW9.out
 have hp9 := HP.out
 generalize (((((World.setCell _ _ _).setCell _ _).setCell _ _).setCell _ _).setCell _ _) = wz at *
 obtain ⟨s0, s1, s2, s3, s4⟩ := b5 hw9
 exact bodyPost_ret (v := .agg #[.int .i64 0, .string ⟨#[]⟩, .string ⟨#[]⟩, .int .i64 y.ver, .slice none 0 0]) (by simp [results, Tryz.results92, go_sem, s0, s1, s2, s3, s4]) rfl hp9
set_option maxHeartbeats 4000000 in
theorem read_e {lo b : Nat} {vn vt : Value} {s : St} {w : World} (h : Sw lo b vn vt s w) (x : Pt) (hst : StR s) (hm : mayP x = true) (hn : s.nodes.length ≤ 3900) (hnt : s.turns.length ≤ 3900) (ht : Tab w) (hk : x.kind = 7) :
  Calls Tryz.prog 93 #[.pointer (some ⟨b, 0, none⟩), ptV x] w (PmR lo b vn vt (doP s x).1 (doP s x).2 w) := by
 have hp : x.path.length ≤ 100 := split_len ((mayP_iff x).1 hm).2.1
 obtain ⟨k, d, p, da, v, o, t⟩ := x
 obtain rfl : k = 7 := hk
 simp only at hp
 have hf0 : Fp Non w ((w.alloc (.cells #[.int .i64 7, .string (B d), .string (B p), .string (B da), .int .i64 v, .int .i64 o, .bool t] TP)).alloc (.cells #[.int .i64 0, .string ⟨#[]⟩, .string ⟨#[]⟩, .int .i64 0, .slice none 0 0] TR)) := ((Fp.refl Non w).alloc _).alloc _
 have K0 := zI (Kp.and (Kp.sw (h.non hf0)) (Kp.and (Kp.bp (Bp.made w 7 d p da v o t)) (Kp.and (Kp.fp hf0) (Kp.tab (ht.non hf0)))))
 have HX := zI (yI h (yI hst (yI hm (yI hn hnt))))
 have hpt : ptV ⟨7, d, p, da, v, o, t⟩ = .agg #[.int .i64 7, .string (B d), .string (B p), .string (B da), .int .i64 v, .int .i64 o, .bool t] := rfl
 cases hf : find s.nodes p with
 | none =>
  have e : doP s ⟨7, d, p, da, v, o, t⟩ = (s, .bad 62) := by unfold doP; simp [hf]
  rw [e]
  have hs := fun W (hW : Sw lo b vn vt s W) => node_none hW ⟨7, d, p, da, v, o, t⟩ hst.asc (by omega) hf
  rw [hpt] at hs
  have HS := zI hs
  clear hs
  clear hf0 h ht hst hm hn hnt hp hf e
  rw [hpt]
  clear hpt
  go_enter Tryz.func93, Tryz.ntmps93
  generalize hW0 : ((w.alloc (.cells #[.int .i64 7, .string (B d), .string (B p), .string (B da), .int .i64 v, .int .i64 o, .bool t] TP)).alloc (.cells #[.int .i64 0, .string ⟨#[]⟩, .string ⟨#[]⟩, .int .i64 0, .slice none 0 0] TR)) = W0 at *
  obtain ⟨o0, o1, o2, o3, o4, o5, o6⟩ := boxP7 K0.out.now.2.1.op
  go_wp2_with fail
  clear hW0
  refine (HS.out _ K0.out.now.1).mono ?_
  rintro e w1 ⟨rfl, hf⟩
  have K1 := zI (K0.out.later hf)
  clear hf
  clear o0 o1 o2 o3 o4 o5 o6
  go_wp2_with fail
  refine (refusedP_c 62 _).mono ?_
  rintro e w9 ⟨rfl, hf⟩
  have K9 := zI (K1.out.later hf)
  clear hf
  unfold badV
  have hbr := (Chd.still HX.out.1 K9.out.now.1 K9.out.now.2.1 K9.out.now.2.2.1).bp
  obtain ⟨r0, r1, r2, r3, r4⟩ := hbr.r
  have z0 := hbr.fz 0; have z1 := hbr.fz 1; have z2 := hbr.fz 2; have z3 := hbr.fz 3; have z4 := hbr.fz 4
  have HP := zI ((Chd.still HX.out.1 K9.out.now.1 K9.out.now.2.1 K9.out.now.2.2.1).done (.bad 62) (.slice none 0 0) (Own.nil _ _) (fun e => by simp [Value.ownBlock] at e) (62) (⟨#[]⟩) (⟨#[]⟩) (0) rfl rfl rfl rfl)
  have HW9 := zI (set5 hbr.res (.int .i64 62) (.string ⟨#[]⟩) (.string ⟨#[]⟩) (.int .i64 0) (.slice none 0 0))
  clear hbr
  go_wp2
  have hw9 := HW9.out
  have hp9 := HP.out
  generalize (((((World.setCell _ _ _).setCell _ _).setCell _ _).setCell _ _).setCell _ _) = wz at *
  obtain ⟨s0, s1, s2, s3, s4⟩ := b5 hw9
  exact bodyPost_ret (v := .agg #[.int .i64 62, .string ⟨#[]⟩, .string ⟨#[]⟩, .int .i64 0, .slice none 0 0]) (by simp [results, Tryz.results93, go_sem, s0, s1, s2, s3, s4]) rfl hp9
 | some y => ?_
 have e : doP s ⟨7, d, p, da, v, o, t⟩ = (s, ⟨0, [], y.data, y.ver, []⟩) := by unfold doP; simp [hf, versionedP]
 rw [e]
 have hs := fun W (hW : Sw lo b vn vt s W) => node_some hW ⟨7, d, p, da, v, o, t⟩ hst.asc (by omega) hf
 rw [hpt] at hs
 simp only at hs
 obtain ⟨q, hq⟩ : ∃ q, q = place s.nodes p := ⟨_, rfl⟩
 rw [← hq] at hs
 have HS := zI hs
 clear hs
 clear hf0 h ht hst hm hn hnt hp hf e hq
 rw [hpt]
 clear hpt
 go_enter Tryz.func93, Tryz.ntmps93
 generalize hW0 : ((w.alloc (.cells #[.int .i64 7, .string (B d), .string (B p), .string (B da), .int .i64 v, .int .i64 o, .bool t] TP)).alloc (.cells #[.int .i64 0, .string ⟨#[]⟩, .string ⟨#[]⟩, .int .i64 0, .slice none 0 0] TR)) = W0 at *
 obtain ⟨o0, o1, o2, o3, o4, o5, o6⟩ := boxP7 K0.out.now.2.1.op
 go_wp2_with fail
 clear hW0
 refine (HS.out _ K0.out.now.1).mono ?_
 rintro e w1 ⟨G, hG, hnd, rfl, hf⟩
 have K1 := zI (K0.out.later hf)
 have HN1 := zI (yI hG (hnd.keep hf id))
 clear hnd hG
 clear hf
 clear o0 o1 o2 o3 o4 o5 o6
 have KD := zI (K1.out.later ((Fp.refl Non w1).drew))
 have HND := zI (HN1.out.2.keep ((Fp.refl Non w1).drew) id)
 have c1 := HND.out.c1; have c2 := HND.out.c2
 unfold strV at c1
 go_wp2_with fail
 refine wp_region_still_tail 9 (by kernel_rfl) (by kernel_rfl) ?_
 simp only [List.take_succ_cons, List.take_zero, List.drop_succ_cons, List.drop_zero]
 change wpStill _ _ (World.drew _) _ _ _
 repeat still_step
 refine wpStill_nil ?_
 change wpList _ _ _ _ _ (World.drew _)
 generalize World.drew w1 = W1 at *
 have hbr := (Chd.still HX.out.1 KD.out.now.1 KD.out.now.2.1 KD.out.now.2.2.1).bp
 obtain ⟨r0, r1, r2, r3, r4⟩ := hbr.r
 have z0 := hbr.fz 0; have z1 := hbr.fz 1; have z2 := hbr.fz 2; have z3 := hbr.fz 3; have z4 := hbr.fz 4
 have HP := zI ((Chd.still HX.out.1 KD.out.now.1 KD.out.now.2.1 KD.out.now.2.2.1).done ⟨0, [], y.data, y.ver, []⟩ (.slice none 0 0) (Own.nil _ _) (fun e => by simp [Value.ownBlock] at e) (0) (⟨#[]⟩) ((B y.data)) (y.ver) rfl rfl rfl rfl)
 have HW9 := zI (set5 hbr.res (.int .i64 0) (.string ⟨#[]⟩) (.string (B y.data)) (.int .i64 y.ver) (.slice none 0 0))
 clear hbr
 go_wp2
 have hw9 := HW9.out
 have hp9 := HP.out
 generalize (((((World.setCell _ _ _).setCell _ _).setCell _ _).setCell _ _).setCell _ _) = wz at *
 obtain ⟨s0, s1, s2, s3, s4⟩ := b5 hw9
 exact bodyPost_ret (v := .agg #[.int .i64 0, .string ⟨#[]⟩, .string (B y.data), .int .i64 y.ver, .slice none 0 0]) (by simp [results, Tryz.results93, go_sem, s0, s1, s2, s3, s4]) rfl hp9
end Go.Proofs.YtphoglepiegeiaaGreatDoor
