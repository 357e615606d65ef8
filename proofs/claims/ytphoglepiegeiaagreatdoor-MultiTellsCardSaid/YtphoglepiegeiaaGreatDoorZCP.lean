/- A text of this proof. -/
import Derived.Test.YtphoglepiegeiaaGreatDoorZCC
import Derived.Test.YtphoglepiegeiaaGreatDoorZCH
import Derived.Test.YtphoglepiegeiaaGreatDoorZCO
set_option linter.unusedSimpArgs false
set_option linter.unusedVariables false
namespace Go.Proofs.YtphoglepiegeiaaGreatDoor
set_option maxRecDepth 20000
open Go.RowKit Pm
def ownS (b : Nat) (vn vt : Value) : Nat → Prop := fun k => k = b ∨ vn.ownBlock = some k ∨ vt.ownBlock = some k
theorem split_len {p : Bs} (h : (split p).isSome = true) : p.length ≤ 100 := by
 obtain ⟨ps, hps⟩ := Option.isSome_iff_exists.1 h
 obtain ⟨hP, e⟩ := (split_iff _ _).1 hps
 have := joinP_len hP
 rw [e] at this; exact this
theorem StR.sp {s : St} (h : StR s) : Sp s.nodes := fun n hn => by
 have := split_len ((sfit_iff n).1 (h.fit n hn)).1; omega
theorem Pd.sub {S T : Nat → Prop} {wc : World} {f : Value} {q : Nd → Bool} (h : Pd S wc f q) (k : ∀ i, T i → S i) : Pd T wc f q := by
 obtain ⟨kf, fi, cap, e, h1, h2⟩ := h.ex
 exact ⟨kf, fi, cap, e, h1, fun n w1 hn hf => h2 n w1 hn (hf.mono k)⟩
set_option maxHeartbeats 2000000 in
theorem DeleteFunc_own {lo : Nat} {w : World} {v f : Value} {l : List Nd} {q : Nd → Bool} (h : Ow lo w v l) (hs : Sp l) (hq : Pd (fun k => v.ownBlock = some k) w f q) (hl : l.length ≤ 4000) :
  Calls Tryz.prog 129 #[v, f] w fun e w' => ∃ v', e = .returned v' ∧ ChR lo w v (l.filter (fun n => !q n)) v' w' := by
 rcases h.ways with ⟨rfl, rfl⟩ | ⟨G, cap, rfl, h1, h2⟩
 ·have HI := zI (IndexFunc_c (.slice none 0 0) f [] q w (Ns.nil w) hs hq.non (by simp))
  obtain ⟨kf, fi, fc, rfl, hen, hcall⟩ := hq.ex
  clear hq hcall h hs hl
  go_enter Tryz.func129, Tryz.ntmps129
  go_wp2_with fail
  refine HI.out.mono ?_
  rintro e w1 ⟨⟨z, rfl, hz⟩, hf1⟩
  rcases hz with ⟨rfl, hz⟩ | ⟨i, rfl, hil, hqi, hz⟩
  ·have HF := zI hf1
   clear hf1 hz
   go_wp2
   go_ret
   exact ⟨_, rfl, Ow.nil _ _, HF.out.any, fun k hk => .inl hk⟩
  simp at hil
 refine (DeleteFunc_c h1 hs (hq.sub (fun i hi => by rw [hi]; rfl)) hl).mono ?_
 rintro e w' ⟨v', rfl, hR⟩
 obtain rfl := hR.v
 exact ⟨_, rfl, Ow.row hR.row h2, hR.fp.mono (fun k hk => by rw [hk]; rfl), fun k hk => .inl hk⟩
set_option maxHeartbeats 8000000 in
theorem lastParts_c {lo b : Nat} {vn vt : Value} {s : St} {w : World} {f : Value} {q : Nd → Bool} (h : Sw lo b vn vt s w) (hs : Sp s.nodes) (hq : Pd Non w f q) (hl : s.nodes.length ≤ 4000) :
  Calls Tryz.prog 133 #[.pointer (some ⟨b, 0, none⟩), f] w fun e w' => ∃ v', e = .returned v' ∧ Own w.heap.size w' v' ((s.nodes.filter q).map (fun n => last n.path)) ∧ Fp Non w w' := by
 have c0 := h.c0
 have hns := h.own.ns
 obtain ⟨n, hn⟩ : ∃ n, n = s.nodes.length := ⟨_, rfl⟩
 obtain ⟨kf, fi, fc, rfl, hen, hcall⟩ := hq.ex
 obtain ⟨vao, vcp, rfl⟩ := hns.shape
 rw [← hn] at c0
 have HX := zI (yI hn (yI hs (yI hcall hns)))
 have hn6 : n ≤ 4000 := by omega
 have H0 : Hid (Own w.heap.size w (.slice none 0 0) (((s.nodes.take 0).filter q).map (fun n => last n.path)) ∧ Fp Non w w) := ⟨by rw [List.take_zero]; exact Own.nil _ _, Fp.refl _ _⟩
 clear hq hcall h hs hn hl hns
 go_enter Tryz.func133, Tryz.ntmps133
 go_wp2_with fail
 go_loopw [5, 13] (fun v i wr => ∃ k : Nat, k ≤ n ∧ i = .int .i64 k ∧ Hid (Own w.heap.size wr v (((s.nodes.take k).filter q).map (fun n => last n.path)) ∧ Fp Non w wr)) (fun _ i _ => n - (RowKit.intOf i).toNat)
 case atStart => exact ⟨0, Nat.zero_le _, rfl, H0⟩
 clear H0
 obtain ⟨k, hk, rfl, hR⟩ := hrel
 rename_i wr _
 by_cases hlt : k < n
 ·have hkl : k < s.nodes.length := by rw [← HX.out.1]; exact hlt
  obtain ⟨g, og, cap', e9, _, _, _, hcell⟩ := HX.out.2.2.2.at (by omega)
  injection e9 with e1 e2 e3
  subst e1 e3
  have hnd := (hcell k hkl).keep hR.out.2 id
  clear hcell
  have hstep := take_step s.nodes k hkl q
  have hcc := fun w1 hf => HX.out.2.2.1 s.nodes[k] w1 (HX.out.2.1 _ (List.getElem_mem hkl)) hf
  have hsp := HX.out.2.1 _ (List.getElem_mem hkl)
  obtain ⟨b, hb⟩ : ∃ b, q s.nodes[k] = b := ⟨_, rfl⟩
  rw [hb] at hcc hstep
  clear hb
  generalize s.nodes[k] = x at *
  have hbx := NdAt.box wr x
  have hla := fun w => Last_g x.path w (sz_of hsp (by omega))
  have c0 := hnd.c0; have c1 := hnd.c1; have c2 := hnd.c2; have c3 := hnd.c3; have c4 := hnd.c4
  unfold strV at c0 c1
  unfold ndV strV at hcc
  have q3 : ((k : Int) < (n : Int)) = True := eq_true (by omega)
  have q4 : (k < n) = True := eq_true hlt
  have HCC := zI hcc
  have HLA := zI hla
  have HB := zI (yI hstep hbx)
  have HL := zI hlt
  clear hnd hcc hstep hbx hkl hlt hla hsp
  go_wp2_with fail
  rw [hen _ _]
  go_wp2_with fail
  refine (HCC.out _ (hR.out.2.trans ((Fp.refl Non wr).alloc _) (fun _ h => h.elim))).mono ?_
  rintro e w2 ⟨rfl, hf2⟩
  have hf2' : Fp Non wr w2 := ((Fp.refl Non wr).alloc _).then hf2
  have hbx2 := (HB.out.2.keep hf2 id).five
  have hown2 : Own w.heap.size w2 _ _ := hR.out.1.grown' hf2'
  cases b with
  | false =>
   have hM : Hid (Own w.heap.size w2 _ (((s.nodes.take (k + 1)).filter q).map (fun n => last n.path)) ∧ Fp Non w w2) := ⟨by rw [HB.out.1]; simpa using hown2, hR.out.2.then hf2'⟩
   have hj1 := HL.out
   clear hf2 hbx2 hown2 hf2'
   go_wp2
   go_roundw
   case rel => exact ⟨k + 1, by omega, by go_num, hM⟩
   case measure => simp [RowKit.intOf]; omega
  | true => ?_
  obtain ⟨b0, _, _, _, _⟩ := hbx2
  have HO2 := zI (yI hown2 (yI (hR.out.2.then hf2') hf2'))
  clear hf2 hown2 hf2'
  go_wp2_with fail
  refine (HLA.out _).mono ?_
  rintro e w3 ⟨rfl, g3⟩
  have hown3 : Own w.heap.size w3 _ _ := HO2.out.1.grown' g3.fp
  have hfp3 : Fp Non w w3 := HO2.out.2.1.then g3.fp
  obtain ⟨ps, hps⟩ : ∃ ps, ps = ((s.nodes.take k).filter q).map (fun n => last n.path) := ⟨_, rfl⟩
  rw [← hps] at hown3
  have hpl : ps.length ≤ 4000 := by rw [hps, List.length_map]; exact Nat.le_trans (List.length_filter_le _ _) (by rw [List.length_take]; omega)
  have hap := app_name w3 w.heap.size _ ps (last x.path) TSs hown3 (by omega) hfp3.size
  obtain ⟨vao, vcap, rfl⟩ := hown3.shape
  have HPS := zI hps
  have HAP := zI hap
  have HF3 := zI hfp3
  clear g3 hown3 hfp3 hap hps hpl
  go_wp2_with (at_builtin; go_must (refine wpList_app rfl _ _ _ _ rfl _ _ rfl rfl _ HAP.out ?_))
  intro v4 w4 hR4
  have hM : Hid (Own w.heap.size w4 v4 (((s.nodes.take (k + 1)).filter q).map (fun n => last n.path)) ∧ Fp Non w w4) := ⟨by rw [HB.out.1]; have := hR4.own; rw [HPS.out] at this; simpa using this, HF3.out.trans hR4.fp (fun k hk => .inr hk)⟩
  have hj1 := HL.out
  clear hR4
  go_wp2
  go_roundw
  case rel => exact ⟨k + 1, by omega, by go_num, hM⟩
  case measure => simp [RowKit.intOf]; omega
 have hke : k = n := by omega
 subst hke
 have q3 : ((k : Int) < (k : Int)) = False := eq_false (by omega)
 have hfin := hR.out.1
 rw [List.take_of_length_le (by rw [← HX.out.1]; exact Nat.le_refl _)] at hfin
 have HF := zI hfin
 clear hlt hk hfin
 go_wp2
 go_ret
 exact ⟨_, rfl, HF.out, hR.out.2⟩
theorem node_at {lo b : Nat} {vn vt : Value} {s : St} {w : World} (h : Sw lo b vn vt s w) (ha : Asc s.nodes) {p : Bs} {y : Nd} (hf : find s.nodes p = some y) : ∃ G, vn.ownBlock = some G ∧ NdAt w G (place s.nodes p * 5) y := by
 obtain ⟨hk, e⟩ := find_at ha hf
 rcases h.own.ways with ⟨_, e2⟩ | ⟨G, cap, rfl, h1, _⟩
 ·rw [e2] at hk; simp at hk
 have := h1.nd _ hk
 rw [e, Nat.zero_add] at this
 exact ⟨G, rfl, this⟩
set_option maxHeartbeats 4000000 in
theorem versioned_none {lo b : Nat} {vn vt : Value} {s : St} {w : World} (h : Sw lo b vn vt s w) (x : Pt) (ha : Asc s.nodes) (hn : s.nodes.length ≤ 1000000) (hf : find s.nodes x.path = none) :
  Calls Tryz.prog 128 #[.pointer (some ⟨b, 0, none⟩), ptV x] w fun e w' => e = .returned (.tuple #[.pointer none, .int .i64 62]) ∧ Fp Non w w' := by
 obtain ⟨k, d, p, da, v, o, t⟩ := x
 have HS := zI (fun w' (f : Fp Non w w') => node_none (h.non f) ⟨k, d, p, da, v, o, t⟩ ha hn hf)
 have HA := zI (fun o => fp_alloc w o)
 unfold ptV strV
 unfold ptV strV at HS
 clear h hn ha hf
 go_enter Tryz.func128, Tryz.ntmps128
 go_wp2_with fail
 refine (HS.out _ (HA.out _)).mono ?_
 rintro e w1 ⟨rfl, hf⟩
 have HF := zI ((HA.out _).then hf)
 clear hf HS
 go_wp2_with fail
 refine wp_region_held_drew (S := (fun _ => True)) (by kernel_rfl) ?_ (fun hH => ?_)
 ·trivial
 refine tk 0 hH ?_
 refine tk 1 hH ?_
 refine tk 2 hH ?_
 refine sk 3 hH ?_
 refine sk 4 hH ?_
 refine sk 5 hH ?_
 refine tk 6 hH ?_
 refine tk 7 hH ?_
 refine sk 8 hH ?_
 refine sk 9 hH ?_
 refine sk 10 hH ?_
 refine sk 11 hH ?_
 refine sk 12 hH ?_
 refine sk 13 hH ?_
 refine sk 14 hH ?_
 refine tk 15 hH ?_
 refine dn ?_
 go_wp2
 go_ret2
 exact ⟨rfl, HF.out.then (Fp.refl Non _).drew⟩
set_option maxHeartbeats 4000000 in
theorem versioned_bad {lo b : Nat} {vn vt : Value} {s : St} {w : World} (h : Sw lo b vn vt s w) (x : Pt) (ha : Asc s.nodes) (hn : s.nodes.length ≤ 1000000) {y : Nd} (hf : find s.nodes x.path = some y) (hbad : 0 ≤ x.ver ∧ x.ver ≠ y.ver) :
  Calls Tryz.prog 128 #[.pointer (some ⟨b, 0, none⟩), ptV x] w fun e w' => e = .returned (.tuple #[.pointer none, .int .i64 63]) ∧ Fp Non w w' := by
 obtain ⟨k, d, p, da, v, o, t⟩ := x
 have hs := fun w' (f : Fp Non w w') => node_some (h.non f) ⟨k, d, p, da, v, o, t⟩ ha hn hf
 simp only at hs
 have hf0 := fp_alloc w (Obj.cells #[.int .i64 k, .string (B d), .string (B p), .string (B da), .int .i64 v, .int .i64 o, .bool t] TP)
 have hb0 := heap_alloc_new w (Obj.cells #[.int .i64 k, .string (B d), .string (B p), .string (B da), .int .i64 v, .int .i64 o, .bool t] TP)
 have HA := zI (yI hf0 hb0)
 simp only at hbad
 obtain ⟨q, hq⟩ : ∃ q, q = place s.nodes p := ⟨_, rfl⟩
 rw [← hq] at hs
 show Calls _ _ _ _ (fun e w' => e = .returned (.tuple #[.pointer none, .int .i64 63]) ∧ Fp Non w w')
 obtain ⟨yp, yd, yv, yt, yo⟩ := y
 unfold ptV strV
 unfold ptV strV at hs
 have HS := zI hs
 clear h hn ha hf hf0 hb0 hs hq
 have q1 : ((0 : Int) ≤ v) = True := eq_true hbad.1
 have q2 : (v != yv) = true := by simpa using hbad.2
 have q3 : (v == yv) = false := by simpa using hbad.2
 have q4 : (v = yv) = False := eq_false hbad.2
 clear hbad
 go_enter Tryz.func128, Tryz.ntmps128
 go_wp2_with fail
 refine (HS.out _ HA.out.1).mono ?_
 rintro e w1 ⟨G, hG, hnd, rfl, hf⟩
 have HF := zI (yI (HA.out.1.then hf) (yI (hf.heap HA.out.2 id) (yI (hnd.keep hf id) hG)))
 have HS0 : Hid (w1.drew.cell? ⟨w.heap.size, 4, none⟩ = some (.int .i64 v) ∧ w1.drew.cell? ⟨G, q * 5 + 2, none⟩ = some (.int .i64 yv)) := ⟨(Fp.refl Non w1).drew.cell (boxP7 HF.out.2.1).2.2.2.2.1 id, (Fp.refl Non w1).drew.cell HF.out.2.2.1.c2 id⟩
 clear hf hnd HS hG
 go_wp2_with fail
 refine wp_region_held_drew (S := (fun w' => w'.cell? ⟨w.heap.size, 4, none⟩ = some (.int .i64 v) ∧ w'.cell? ⟨G, q * 5 + 2, none⟩ = some (.int .i64 yv))) (by kernel_rfl) ?_ (fun hH => ?_)
 ·exact HS0.out
 refine tk 0 hH ?_
 refine tk 1 hH ?_
 refine tk 2 hH ?_
 refine tk 3 hH ?_
 refine tk 4 hH ?_
 refine tk 5 hH ?_
 refine tk 6 hH ?_
 refine tk 7 hH ?_
 refine tk 8 hH ?_
 refine tk 9 hH ?_
 refine tk 10 hH ?_
 refine tk 11 hH ?_
 refine tk 12 hH ?_
 refine tk 13 hH ?_
 refine tk 14 hH ?_
 refine tk 15 hH ?_
 refine dn ?_
 go_wp2
 go_ret2
 exact ⟨rfl, HF.out.1.then (Fp.refl Non _).drew⟩
set_option maxHeartbeats 4000000 in
theorem versioned_ok {lo b : Nat} {vn vt : Value} {s : St} {w : World} (h : Sw lo b vn vt s w) (x : Pt) (ha : Asc s.nodes) (hn : s.nodes.length ≤ 1000000) {y : Nd} (hf : find s.nodes x.path = some y) (hbad : ¬ (0 ≤ x.ver ∧ x.ver ≠ y.ver)) :
  Calls Tryz.prog 128 #[.pointer (some ⟨b, 0, none⟩), ptV x] w fun e w' => ∃ G, vn.ownBlock = some G ∧ NdAt w G (place s.nodes x.path * 5) y ∧ e = .returned (.tuple #[.pointer (some ⟨G, place s.nodes x.path * 5, none⟩), .int .i64 0]) ∧ Fp Non w w' := by
 obtain ⟨k, d, p, da, v, o, t⟩ := x
 obtain ⟨G0, hG0, hn0⟩ := node_at h ha hf
 simp only at hG0 hn0
 have hs := fun w' (f : Fp Non w w') => node_some (h.non f) ⟨k, d, p, da, v, o, t⟩ ha hn hf
 simp only at hs
 have hf0 := fp_alloc w (Obj.cells #[.int .i64 k, .string (B d), .string (B p), .string (B da), .int .i64 v, .int .i64 o, .bool t] TP)
 have hb0 := heap_alloc_new w (Obj.cells #[.int .i64 k, .string (B d), .string (B p), .string (B da), .int .i64 v, .int .i64 o, .bool t] TP)
 have HA := zI (yI hf0 hb0)
 simp only at hbad
 obtain ⟨q, hq⟩ : ∃ q, q = place s.nodes p := ⟨_, rfl⟩
 rw [← hq] at hs hn0
 have HND := zI (yI hG0 hn0)
 clear hG0 hn0
 show Calls _ _ _ _ (fun e w' => ∃ G, vn.ownBlock = some G ∧ NdAt w G (place s.nodes p * 5) y ∧ e = .returned (.tuple #[.pointer (some ⟨G, place s.nodes p * 5, none⟩), .int .i64 0]) ∧ Fp Non w w')
 rw [← hq]
 obtain ⟨yp, yd, yv, yt, yo⟩ := y
 unfold ptV strV
 unfold ptV strV at hs
 have HS := zI hs
 clear h hn ha hf hf0 hb0 hs hq
 by_cases hv : 0 ≤ v
 ·obtain rfl : v = yv := Decidable.byContradiction fun e => hbad ⟨hv, e⟩
  have q1 : ((0 : Int) ≤ v) = True := eq_true hv
  clear hbad hv
  go_enter Tryz.func128, Tryz.ntmps128
  go_wp2_with fail
  refine (HS.out _ HA.out.1).mono ?_
  rintro e w1 ⟨G, hG, hnd, rfl, hf⟩
  obtain rfl : G = G0 := Option.some.inj (hG.symm.trans HND.out.1)
  have HF := zI (yI (HA.out.1.then hf) (yI (hf.heap HA.out.2 id) (yI (hnd.keep hf id) (yI hG HND.out.2))))
  have HS0 : Hid (w1.drew.cell? ⟨w.heap.size, 4, none⟩ = some (.int .i64 v) ∧ w1.drew.cell? ⟨G, q * 5 + 2, none⟩ = some (.int .i64 v)) := ⟨(Fp.refl Non w1).drew.cell (boxP7 HF.out.2.1).2.2.2.2.1 id, (Fp.refl Non w1).drew.cell HF.out.2.2.1.c2 id⟩
  clear hf hnd HS hG
  go_wp2_with fail
  refine wp_region_held_drew (S := (fun w' => w'.cell? ⟨w.heap.size, 4, none⟩ = some (.int .i64 v) ∧ w'.cell? ⟨G, q * 5 + 2, none⟩ = some (.int .i64 v))) (by kernel_rfl) ?_ (fun hH => ?_)
  ·exact HS0.out
  refine tk 0 hH ?_
  refine tk 1 hH ?_
  refine tk 2 hH ?_
  refine tk 3 hH ?_
  refine tk 4 hH ?_
  refine tk 5 hH ?_
  refine tk 6 hH ?_
  refine tk 7 hH ?_
  refine tk 8 hH ?_
  refine tk 9 hH ?_
  refine tk 10 hH ?_
  refine tk 11 hH ?_
  refine tk 12 hH ?_
  refine tk 13 hH ?_
  refine tk 14 hH ?_
  refine tk 15 hH ?_
  refine dn ?_
  go_wp2
  go_ret2
  exact ⟨G, HF.out.2.2.2.1, HF.out.2.2.2.2, rfl, HF.out.1.then (Fp.refl Non _).drew⟩
 have q1 : ((0 : Int) ≤ v) = False := eq_false hv
 clear hbad hv
 go_enter Tryz.func128, Tryz.ntmps128
 go_wp2_with fail
 refine (HS.out _ HA.out.1).mono ?_
 rintro e w1 ⟨G, hG, hnd, rfl, hf⟩
 obtain rfl : G = G0 := Option.some.inj (hG.symm.trans HND.out.1)
 have HF := zI (yI (HA.out.1.then hf) (yI (hf.heap HA.out.2 id) (yI (hnd.keep hf id) (yI hG HND.out.2))))
 have HS0 : Hid (w1.drew.cell? ⟨w.heap.size, 4, none⟩ = some (.int .i64 v) ∧ w1.drew.cell? ⟨G, q * 5 + 2, none⟩ = some (.int .i64 yv)) := ⟨(Fp.refl Non w1).drew.cell (boxP7 HF.out.2.1).2.2.2.2.1 id, (Fp.refl Non w1).drew.cell HF.out.2.2.1.c2 id⟩
 clear hf hnd HS hG
 go_wp2_with fail
 refine wp_region_held_drew (S := (fun w' => w'.cell? ⟨w.heap.size, 4, none⟩ = some (.int .i64 v) ∧ w'.cell? ⟨G, q * 5 + 2, none⟩ = some (.int .i64 yv))) (by kernel_rfl) ?_ (fun hH => ?_)
 ·exact HS0.out
 refine tk 0 hH ?_
 refine tk 1 hH ?_
 refine tk 2 hH ?_
 refine tk 3 hH ?_
 refine tk 4 hH ?_
 refine tk 5 hH ?_
 refine tk 6 hH ?_
 refine tk 7 hH ?_
 refine sk 8 hH ?_
 refine sk 9 hH ?_
 refine sk 10 hH ?_
 refine sk 11 hH ?_
 refine sk 12 hH ?_
 refine sk 13 hH ?_
 refine sk 14 hH ?_
 refine tk 15 hH ?_
 refine dn ?_
 go_wp2
 go_ret2
 exact ⟨G, HF.out.2.2.2.1, HF.out.2.2.2.2, rfl, HF.out.1.then (Fp.refl Non _).drew⟩
section
variable {lo b : Nat} {vn vt : Value} {s : St} {w w1 w2 : World}
theorem Sw.lt (h : Sw lo b vn vt s w) : b < w.heap.size := (Array.getElem?_eq_some_iff.1 h.blk).1
theorem Sw.ltN (h : Sw lo b vn vt s w) : ∀ k, vn.ownBlock = some k → k < w.heap.size := fun k hk => (World.ownsRow.lt h.own k hk).2
theorem Sw.ltT (h : Sw lo b vn vt s w) : ∀ k, vt.ownBlock = some k → k < w.heap.size := fun k hk => (World.ownsRow.lt h.ownT k hk).2
theorem Sw.putT (h : Sw lo b vn vt s w) {vt' : Value} {l' : List Tu} (f0 : Fp Non w w1) (c : ChTR lo w1 vt l' vt' w2) :
  Sw lo b vn vt' ⟨s.nodes, l'⟩ (w2.setCell ⟨b, 1, none⟩ vt') ∧ Fp (fun k => k = b ∨ vt.ownBlock = some k) w (w2.setCell ⟨b, 1, none⟩ vt') ∧ ∀ k, vt'.ownBlock = some k → vt.ownBlock = some k ∨ w.heap.size ≤ k := by
 have hb1 := (h.non f0).blk
 have hbl := (h.non f0).lt
 have hb2 := c.fp.heap hb1 (fun e => h.neT e)
 have fs : Fp (fun k => k = b) w2 (w2.setCell ⟨b, 1, none⟩ vt') := (Fp.refl (fun k => k = b) w2).setCell (p := ⟨b, 1, none⟩) (.inl rfl) _
 have hne : vt'.ownBlock ≠ some b := fun e => (c.new b e).elim h.neT (fun k => by omega)
 have hlt := (h.non f0).ltN
 refine ⟨⟨heap_setCell_same w2 b 1 _ TS _ hb2, h.low, ?_, c.own.keep fs (fun k hk e => hne (by rw [hk, e])), h.neN, hne, fun k hk e => ?_⟩, ?_, fun k hk => ?_⟩
 ·exact ((h.own.non f0).keep c.fp (fun k hk e => h.apart k hk e)).keep fs (fun k hk e => h.neN (by rw [hk, e]))
 ·rcases c.new k e with e | e
  ·exact h.apart k hk e
  have := hlt k hk; omega
 ·exact ((f0.any (S := fun k => k = b ∨ vt.ownBlock = some k)).same (c.fp.mono (fun k hk => .inr hk))).same (fs.mono (fun k hk => .inl hk))
 rcases c.new k hk with e | e
 ·exact .inl e
 have := f0.size; exact .inr (by omega)
theorem Sw.putN (h : Sw lo b vn vt s w) {vn' : Value} {l' : List Nd} (f0 : Fp Non w w1) (c : ChR lo w1 vn l' vn' w2) :
  Sw lo b vn' vt ⟨l', s.turns⟩ (w2.setCell ⟨b, 0, none⟩ vn') ∧ Fp (fun k => k = b ∨ vn.ownBlock = some k) w (w2.setCell ⟨b, 0, none⟩ vn') ∧ ∀ k, vn'.ownBlock = some k → vn.ownBlock = some k ∨ w.heap.size ≤ k := by
 have hb1 := (h.non f0).blk
 have hbl := (h.non f0).lt
 have hb2 := c.fp.heap hb1 (fun e => h.neN e)
 have fs : Fp (fun k => k = b) w2 (w2.setCell ⟨b, 0, none⟩ vn') := (Fp.refl (fun k => k = b) w2).setCell (p := ⟨b, 0, none⟩) (.inl rfl) _
 have hne : vn'.ownBlock ≠ some b := fun e => (c.new b e).elim h.neN (fun k => by omega)
 have hlt := (h.non f0).ltT
 refine ⟨⟨heap_setCell_same w2 b 0 _ TS _ hb2, h.low, c.own.keep fs (fun k hk e => hne (by rw [hk, e])), ?_, hne, h.neT, fun k hk e => ?_⟩, ?_, fun k hk => ?_⟩
 ·exact ((h.ownT.non f0).keep c.fp (fun k hk e => h.apart k e hk)).keep fs (fun k hk e => h.neT (by rw [hk, e]))
 ·rcases c.new k hk with k' | k'
  ·exact h.apart k k' e
  have := hlt k e; omega
 ·exact ((f0.any (S := fun k => k = b ∨ vn.ownBlock = some k)).same (c.fp.mono (fun k hk => .inr hk))).same (fs.mono (fun k hk => .inl hk))
 rcases c.new k hk with e | e
 ·exact .inl e
 have := f0.size; exact .inr (by omega)
end
theorem Fp.then_any {S : Nat → Prop} {a b c : World} (f : Fp Non a b) (g : Fp S b c) : Fp S a c := (f.any (S := S)).same g
structure SetR (lo b : Nat) (vn vt : Value) (s : St) (T : List Tu) (w w' : World) : Prop where
 ex : ∃ vt', Sw lo b vn vt' ⟨s.nodes, T⟩ w' ∧ ∀ k, vt'.ownBlock = some k → vt.ownBlock = some k ∨ w.heap.size ≤ k
 fp : Fp (fun k => k = b ∨ vt.ownBlock = some k) w w'
theorem SetR.still {lo b : Nat} {vn vt : Value} {s : St} {w w' : World} (h : Sw lo b vn vt s w) (f : Fp Non w w') : SetR lo b vn vt s s.turns w w' :=
 ⟨⟨vt, h.non f, fun k hk => .inl hk⟩, f.any⟩
theorem SetR.then {lo b : Nat} {vn vt vt1 : Value} {s : St} {T1 T2 : List Tu} {w w1 w2 : World} (hn : ∀ k, vt1.ownBlock = some k → vt.ownBlock = some k ∨ w.heap.size ≤ k) (f : Fp (fun k => k = b ∨ vt.ownBlock = some k) w w1) (g : SetR lo b vn vt1 ⟨s.nodes, T1⟩ T2 w1 w2) : SetR lo b vn vt s T2 w w2 := by
 obtain ⟨vt2, h1, h2⟩ := g.ex
 refine ⟨⟨vt2, h1, fun k hk => ?_⟩, f.trans g.fp (fun k hk => ?_)⟩
 ·rcases h2 k hk with e | e
  ·exact hn k e
  have := f.size; exact .inr (by omega)
 rcases hk with e | e
 ·exact .inl (.inl e)
 rcases hn k e with e2 | e2
 ·exact .inl (.inr e2)
 exact .inr e2
theorem placeT_le (l : List Tu) (p : Bs) : placeT l p ≤ l.length := List.countP_le_length
theorem insS {lo b : Nat} {vn vt : Value} {s : St} {w : World} (h : Sw lo b vn vt s w) (p : Bs) (n : Int) (k : Nat) (hk : k ≤ s.turns.length) (hl : s.turns.length ≤ 4000) :
  Calls Tryz.prog 167 #[vt, .int .i64 (k : Int), .slice (some ⟨w.heap.size, 0, none⟩) 1 1] (w.alloc (.cells #[.string (B p), .int .i64 n] TU)) fun e w' => ∃ v', e = .returned v' ∧ ChTR lo (w.alloc (.cells #[.string (B p), .int .i64 n] TU)) vt (insT s.turns k ⟨p, n⟩) v' w' := by
 have hf := fp_alloc w (.cells #[.string (B p), .int .i64 n] TU)
 refine InsertT_own (h.non hf).ownT k hk (X := w.heap.size) (x := ⟨p, n⟩) (heap_alloc_new w _) (fun e => by have := h.ltT _ e; omega) hl ?_
 have := h.low; have := h.lt; simp; omega
theorem delS {lo b : Nat} {vn vt : Value} {s : St} {w : World} (h : Sw lo b vn vt s w) (k : Nat) (hk : k < s.turns.length) (hl : s.turns.length ≤ 4000) :
  Calls Tryz.prog 166 #[vt, .int .i64 (k : Int), .int .i64 ((k : Int) + 1)] w fun e w' => ∃ v', e = .returned v' ∧ ChTR lo w vt (s.turns.eraseIdx k) v' w' := DeleteT_own h.ownT k hk hl
set_option maxHeartbeats 4000000 in
theorem setTurn_c {lo b : Nat} {vn vt : Value} {s : St} {w : World} (h : Sw lo b vn vt s w) (p : Bs) (n : Int) (ha : AscT s.turns) (hl : s.turns.length ≤ 3900) :
  Calls Tryz.prog 126 #[.pointer (some ⟨b, 0, none⟩), .string (B p), .int .i64 n] w fun e w' => e = .returned (.tuple #[]) ∧ SetR lo b vn vt s (setT s.turns p n) w w' := by
 have hs := turnPlace_c h p ha (by omega)
 obtain ⟨k, hk⟩ : ∃ k, k = placeT s.turns p := ⟨_, rfl⟩
 have hkl : k ≤ s.turns.length := by rw [hk]; exact placeT_le _ _
 have hk4 : k ≤ 4000 := by omega
 obtain ⟨T, hT⟩ : ∃ T, T = setT s.turns p n := ⟨_, rfl⟩
 rw [← hT]
 unfold setT at hT
 rw [← hk] at hs hT
 obtain ⟨n0, hn0⟩ : ∃ n0, n0 = s.turns.length := ⟨_, rfl⟩
 have hd := h
 cases hf : findT s.turns p with
 | none =>
  rw [hf] at hs hT
  simp only [Option.isSome_none, Bool.false_eq_true, if_false] at hs hT
  have HS := zI hs
  have HD := zI (yI hd (yI hT (yI hkl hl)))
  by_cases hn : n = 0
  ·have q1 : (n != 0) = false := by simp [hn]
   have q2 : (n = 0) = True := eq_true hn
   rw [if_neg (by simpa using hn)] at hT
   have HT := zI hT
   clear hs h hd hT hkl hl hf hk hn ha hn0
   go_enter Tryz.func126, Tryz.ntmps126
   go_wp2_with fail
   refine HS.out.mono ?_
   rintro e w1 ⟨rfl, hf1⟩
   have H1 := zI (yI (HD.out.1.non hf1) hf1)
   clear hf1 HS
   go_wp2
   go_end0
   exact ⟨rfl, by rw [HT.out]; exact SetR.still HD.out.1 H1.out.2⟩
  have q1 : (n != 0) = true := by simpa using hn
  have q2 : (n = 0) = False := eq_false hn
  rw [if_pos hn] at hT
  have HT := zI hT
  clear hs h hd hT hkl hl hf hk hn ha hn0
  go_enter Tryz.func126, Tryz.ntmps126
  go_wp2_with fail
  refine HS.out.mono ?_
  rintro e w1 ⟨rfl, hf1⟩
  have H1 := zI (yI (HD.out.1.non hf1) hf1)
  clear hf1 HS
  have c1 := (H1.out.1).c1
  have z1 := (H1.out.1).fz 1
  have hi := insS (H1.out.1) p n k HD.out.2.2.1 (by have := HD.out.2.2.2; omega)
  have hsp := (H1.out.1).ownT.ns.shape
  have HI := zI hi
  have hf4 := fp_alloc w1 (.cells #[.string (B p), .int .i64 n] TU)
  have HF4 := zI hf4
  have c14 := hf4.cell c1 id
  clear hi hf4
  obtain ⟨ai, ci, rfl⟩ := hsp
  go_wp2_with fail
  refine HI.out.mono ?_
  rintro e w5 ⟨v5, rfl, hc⟩
  have hp5 := (H1.out.1).putT HF4.out hc
  have hb5 := hc.fp.cell c14 (fun e => (H1.out.1).neT e)
  have z5 : w5.frozen? ⟨b, 1, none⟩ = false := by have := hc.fp.heap ((H1.out.1).non HF4.out).blk (fun e => (H1.out.1).neT e); simp [World.frozen?, this]
  obtain ⟨a5, c5, rfl⟩ := hc.own.ns.shape
  have HP5 := zI hp5
  clear hc hp5 c1 z1 c14
  go_wp2_with fail
  go_end0
  exact ⟨rfl, by rw [HT.out]; exact ⟨⟨_, HP5.out.1, fun k hk => (HP5.out.2.2 k hk).imp id (fun h => Nat.le_trans H1.out.2.size h)⟩, H1.out.2.then_any HP5.out.2.1⟩⟩
 | some t => ?_
 have hfp := findT_place ha p
 rw [hf, ← hk] at hfp
 have hkl2 : k < s.turns.length := by
  apply Decidable.byContradiction; intro c
  rw [dif_neg c] at hfp; cases hfp
 rw [hf] at hs hT
 simp only [Option.isSome_some, if_true] at hs hT
 have HS := zI hs
 have HD := zI (yI hd (yI hT (yI hkl2 hl)))
 clear hfp
 by_cases hn : n = 0
 ·have q1 : (n != 0) = false := by simp [hn]
  have q2 : (n = 0) = True := eq_true hn
  rw [if_neg (by simpa using hn)] at hT
  have HT := zI hT
  clear hs h hd hT hkl hkl2 hl hf hk hn ha hn0
  go_enter Tryz.func126, Tryz.ntmps126
  go_wp2_with fail
  refine HS.out.mono ?_
  rintro e w1 ⟨rfl, hf1⟩
  have H1 := zI (yI (HD.out.1.non hf1) hf1)
  clear hf1 HS
  have c1 := H1.out.1.c1
  have z1 := H1.out.1.fz 1
  have hi := delS H1.out.1 k HD.out.2.2.1 (by have := HD.out.2.2.2; omega)
  have hsp := H1.out.1.ownT.ns.shape
  have HI := zI hi
  clear hi
  obtain ⟨ad, cd, rfl⟩ := hsp
  go_wp2_with fail
  refine HI.out.mono ?_
  rintro e w2 ⟨v2, rfl, hc⟩
  have hp2 := H1.out.1.putT (Fp.refl Non w1) hc
  have hb2 := hc.fp.cell c1 (fun e => H1.out.1.neT e)
  have z2 : w2.frozen? ⟨b, 1, none⟩ = false := by have := hc.fp.heap H1.out.1.blk (fun e => H1.out.1.neT e); simp [World.frozen?, this]
  have hle : (s.turns.eraseIdx k).length ≤ 4000 := by rw [List.length_eraseIdx]; have := HD.out.2.2.2; split <;> omega
  have hke : k ≤ (s.turns.eraseIdx k).length := by rw [List.length_eraseIdx, if_pos HD.out.2.2.1]; have := HD.out.2.2.1; omega
  have HLE := zI (yI hke hle)
  obtain ⟨l1, hl1⟩ : ∃ l1, l1 = s.turns.eraseIdx k := ⟨_, rfl⟩
  rw [← hl1] at hc hp2 HLE HT
  obtain ⟨a2, c2, rfl⟩ := hc.own.ns.shape
  have HP2 := zI (yI hp2 (H1.out.2.then_any hp2.2.1))
  have HL1 := zI hl1
  clear hc hp2 c1 z1 HI hle hke hl1
  go_wp2
  go_end0
  exact ⟨rfl, by rw [HT.out]; exact ⟨⟨_, HP2.out.1.1, fun k hk => (HP2.out.1.2.2 k hk).imp id (fun h => Nat.le_trans H1.out.2.size h)⟩, HP2.out.2⟩⟩
 have q1 : (n != 0) = true := by simpa using hn
 have q2 : (n = 0) = False := eq_false hn
 rw [if_pos hn] at hT
 have HT := zI hT
 clear hs h hd hT hkl hkl2 hl hf hk hn ha hn0
 go_enter Tryz.func126, Tryz.ntmps126
 go_wp2_with fail
 refine HS.out.mono ?_
 rintro e w1 ⟨rfl, hf1⟩
 have H1 := zI (yI (HD.out.1.non hf1) hf1)
 clear hf1 HS
 have c1 := H1.out.1.c1
 have z1 := H1.out.1.fz 1
 have hi := delS H1.out.1 k HD.out.2.2.1 (by have := HD.out.2.2.2; omega)
 have hsp := H1.out.1.ownT.ns.shape
 have HI := zI hi
 clear hi
 obtain ⟨ad, cd, rfl⟩ := hsp
 go_wp2_with fail
 refine HI.out.mono ?_
 rintro e w2 ⟨v2, rfl, hc⟩
 have hp2 := H1.out.1.putT (Fp.refl Non w1) hc
 have hb2 := hc.fp.cell c1 (fun e => H1.out.1.neT e)
 have z2 : w2.frozen? ⟨b, 1, none⟩ = false := by have := hc.fp.heap H1.out.1.blk (fun e => H1.out.1.neT e); simp [World.frozen?, this]
 have hle : (s.turns.eraseIdx k).length ≤ 4000 := by rw [List.length_eraseIdx]; have := HD.out.2.2.2; split <;> omega
 have hke : k ≤ (s.turns.eraseIdx k).length := by rw [List.length_eraseIdx, if_pos HD.out.2.2.1]; have := HD.out.2.2.1; omega
 have HLE := zI (yI hke hle)
 obtain ⟨l1, hl1⟩ : ∃ l1, l1 = s.turns.eraseIdx k := ⟨_, rfl⟩
 rw [← hl1] at hc hp2 HLE HT
 obtain ⟨a2, c2, rfl⟩ := hc.own.ns.shape
 have HP2 := zI (yI hp2 (H1.out.2.then_any hp2.2.1))
 have HL1 := zI hl1
 clear hc hp2 c1 z1 HI hle hke hl1
 have c1 := (HP2.out.1.1).c1
 have z1 := (HP2.out.1.1).fz 1
 have hi := insS (HP2.out.1.1) p n k HLE.out.1 HLE.out.2
 have hsp := (HP2.out.1.1).ownT.ns.shape
 rw [show (w2.setCell ⟨b, 1, none⟩ (.slice a2 l1.length c2)).heap.size = w2.heap.size from by simp [World.setCell]] at hi
 have HI := zI hi
 have hf4 := fp_alloc (w2.setCell ⟨b, 1, none⟩ (.slice a2 l1.length c2)) (.cells #[.string (B p), .int .i64 n] TU)
 have HF4 := zI hf4
 have c14 := hf4.cell c1 id
 clear hi hf4
 clear hsp c1 z1
 go_wp2_with fail
 refine HI.out.mono ?_
 rintro e w5 ⟨v5, rfl, hc⟩
 have hp5 := (HP2.out.1.1).putT HF4.out hc
 have hb5 := hc.fp.cell c14 (fun e => (HP2.out.1.1).neT e)
 have z5 : w5.frozen? ⟨b, 1, none⟩ = false := by have := hc.fp.heap ((HP2.out.1.1).non HF4.out).blk (fun e => (HP2.out.1.1).neT e); simp [World.frozen?, this]
 obtain ⟨a5, c5, rfl⟩ := hc.own.ns.shape
 have HP5 := zI hp5
 clear hc hp5 c14
 go_wp2_with fail
 go_end0
 exact ⟨rfl, by rw [HT.out]; exact SetR.then (fun k hk => (HP2.out.1.2.2 k hk).imp id (fun h => Nat.le_trans H1.out.2.size h)) HP2.out.2 ⟨⟨_, HP5.out.1, HP5.out.2.2⟩, HP5.out.2.1⟩⟩
end Go.Proofs.YtphoglepiegeiaaGreatDoor
namespace Go.Proofs.YtphoglepiegeiaaGreatDoor
set_option maxRecDepth 20000
open Go.RowKit Pm
theorem last_len (p : Bs) : (last p).length ≤ 100 := by
 cases h : parent p with
 | none => rw [(parent_none h).2]; simp
 | some u => obtain ⟨_, _, _, _, h1, _⟩ := parent_some h; exact h1
set_option maxHeartbeats 4000000 in
theorem newPath_c {lo b : Nat} {vn vt : Value} {s : St} {w : World} (h : Sw lo b vn vt s w) (x : Pt) (hst : StR s) (hm : mayP x = true) (hn : s.turns.length ≤ 4000) (ht : Tab w) :
  Calls Tryz.prog 124 #[.pointer (some ⟨b, 0, none⟩), ptV x] w fun e w' => e = .returned (.tuple #[.string (B ((newPath s x).getD [])), .bool (newPath s x).isSome]) ∧ Fp Non w w' := by
 have hp : x.path.length ≤ 100 := split_len ((mayP_iff x).1 hm).2.1
 have hd : x.dir.length ≤ 100 := by
  rw [((mayP_iff x).1 hm).2.2.1]; unfold keptAt; split
  ·exact hp
  exact split_len (upB_ok _)
 have htb := turnOf_bounds hst.tfit x.dir
 obtain ⟨k, d, p, da, v, o, t⟩ := x
 simp only at hp hd htb
 unfold newPath
 simp only
 have hf0 := fp_alloc w (Obj.cells #[.int .i64 k, .string (B d), .string (B p), .string (B da), .int .i64 v, .int .i64 o, .bool t] TP)
 have hb0 := heap_alloc_new w (Obj.cells #[.int .i64 k, .string (B d), .string (B p), .string (B da), .int .i64 v, .int .i64 o, .bool t] TP)
 have HB0 := zI (yI hf0 hb0)
 unfold ptV strV
 cases t with
 | false =>
  simp only [Bool.false_eq_true, if_false]
  clear hf0 hb0 hp hd htb hst hm hn ht h
  go_enter Tryz.func124, Tryz.ntmps124
  go_wp2
  go_ret2
  exact ⟨rfl, HB0.out.1⟩
 | true => ?_
 simp only [if_true]
 obtain ⟨q, hq0⟩ : ∃ q, last p = q := ⟨_, rfl⟩
 have hq := last_len p
 rw [hq0] at hq
 have hla := fun w => Last_g p w (sz_of hp (by omega))
 rw [hq0] at hla ⊢
 obtain ⟨tt, htt⟩ : ∃ tt, turnOf s.turns d = tt := ⟨_, rfl⟩
 have htu := fun w' (f : Fp Non w w') => turn_c (h.non f) d hst.tasc (by omega)
 rw [htt] at htb
 simp only [htt] at htu ⊢
 obtain ⟨nn, hnn⟩ : ∃ nn, numbered q tt = nn := ⟨_, rfl⟩
 have hnu := fun w (ht : Tab w) => Numbered_c q tt w (sz_of hq (by omega)) (by omega) (by omega) (Or.inr ht.is)
 rw [hnn] at hnu ⊢
 have HL := zI hla
 have HT := zI htu
 have HN := zI hnu
 have HTab := zI ht
 have HB : Hid (Fp Non w (w.alloc (Obj.cells #[.int .i64 k, .string (B d), .string (B p), .string (B da), .int .i64 v, .int .i64 o, .bool true] TP)).drew ∧ (w.alloc (Obj.cells #[.int .i64 k, .string (B d), .string (B p), .string (B da), .int .i64 v, .int .i64 o, .bool true] TP)).drew.heap[w.heap.size]? = some (.cells #[.int .i64 k, .string (B d), .string (B p), .string (B da), .int .i64 v, .int .i64 o, .bool true] TP (0, 0))) := ⟨HB0.out.1.drew, (Fp.refl Non _).drew.heap HB0.out.2 id⟩
 have HS0 := zI (yI (boxP7 HB.out.2).2.2.1 (boxP7 HB.out.2).2.1)
 have hnl : ∀ q', nn = some q' → q'.length ≤ 12 := fun q' e => numbered_len (by rw [hnn, e])
 cases nn with
 | none =>
  clear hf0 hb0 hp hd htb hst hm hn ht h hla htu hnu hnl hq hq0 htt hnn HB0
  show Calls _ _ _ _ (fun e w' => e = .returned (.tuple #[.string (B []), .bool false]) ∧ _)
  go_enter Tryz.func124, Tryz.ntmps124
  go_wp2_with fail
  refine wp_region_held_drew (S := (fun w' => w'.cell? ⟨w.heap.size, 2, none⟩ = some (.string (B p)) ∧ w'.cell? ⟨w.heap.size, 1, none⟩ = some (.string (B d)))) (by kernel_rfl) ?_ (fun hH => ?_)
  ·exact HS0.out
  refine tk 0 hH ?_
  refine tk 1 hH ?_
  refine tk 3 hH ?_
  refine tk 4 hH ?_
  refine tk 5 hH ?_
  refine rY 2 fun K hK => ?_
  go_simp
  go_at_call 161
  refine (HL.out _).mono ?_
  rintro e w2 ⟨rfl, g2⟩
  have g2' : Fp Non _ _ := g2.fp
  have F2 := zI (yI (HB.out.1.then g2') (g2'.heap HB.out.2 id))
  have HS2 := zI (yI (boxP7 F2.out.2).2.2.1 (boxP7 F2.out.2).2.1)
  clear g2 g2'
  go_wp2_with fail
  refine hK.out _ _ HS2.out (fun hH => ?_)
  clear hK K
  try simp only [zz]
  refine rY 6 fun K hK => ?_
  go_simp
  go_at_call 127
  refine (HT.out _ F2.out.1).mono ?_
  rintro e w3 ⟨rfl, g3⟩
  have g3' : Fp Non _ _ := g3
  have F3 := zI (yI (F2.out.1.then g3') (g3'.heap F2.out.2 id))
  have HS3 := zI (yI (boxP7 F3.out.2).2.2.1 (boxP7 F3.out.2).2.1)
  clear g3 g3'
  go_wp2_with fail
  refine hK.out _ _ HS3.out (fun hH => ?_)
  clear hK K
  try simp only [zz]
  refine rY 7 fun K hK => ?_
  go_simp
  go_at_call 160
  refine (HN.out _ (HTab.out.non F3.out.1)).mono ?_
  rintro e w4 ⟨rfl, g4⟩
  have g4' : Fp Non _ _ := Gr.fp g4
  have F4 := zI (yI (F3.out.1.then g4') (g4'.heap F3.out.2 id))
  have HS4 := zI (yI (boxP7 F4.out.2).2.2.1 (boxP7 F4.out.2).2.1)
  clear g4 g4'
  go_wp2_with fail
  refine hK.out _ _ HS4.out (fun hH => ?_)
  clear hK K
  try simp only [zz]
  refine tk 8 hH ?_
  refine tk 9 hH ?_
  refine tk 10 hH ?_
  refine tk 11 hH ?_
  refine tk 12 hH ?_
  refine dn ?_
  go_wp2
  go_ret2
  exact ⟨rfl, F4.out.1⟩
 | some q' => ?_
 have hjo := fun w => Join_g d q' w (sz_of hd (by omega)) (sz_of (hnl _ rfl) (by omega))
 have HJ := zI hjo
 clear hf0 hb0 hp hd htb hst hm hn ht h hla htu hnu hnl hq hq0 htt hnn hjo HB0
 show Calls _ _ _ _ (fun e w' => e = .returned (.tuple #[.string (B ((join d q').getD [])), .bool (join d q').isSome]) ∧ _)
 generalize (join d q').getD [] = r1 at *
 generalize (join d q').isSome = r2 at *
 go_enter Tryz.func124, Tryz.ntmps124
 go_wp2_with fail
 refine wp_region_held_drew (S := (fun w' => w'.cell? ⟨w.heap.size, 2, none⟩ = some (.string (B p)) ∧ w'.cell? ⟨w.heap.size, 1, none⟩ = some (.string (B d)))) (by kernel_rfl) ?_ (fun hH => ?_)
 ·exact HS0.out
 refine tk 0 hH ?_
 refine tk 1 hH ?_
 refine tk 3 hH ?_
 refine tk 4 hH ?_
 refine tk 5 hH ?_
 refine rY 2 fun K hK => ?_
 go_simp
 go_at_call 161
 refine (HL.out _).mono ?_
 rintro e w2 ⟨rfl, g2⟩
 have g2' : Fp Non _ _ := g2.fp
 have F2 := zI (yI (HB.out.1.then g2') (g2'.heap HB.out.2 id))
 have HS2 := zI (yI (boxP7 F2.out.2).2.2.1 (boxP7 F2.out.2).2.1)
 clear g2 g2'
 go_wp2_with fail
 refine hK.out _ _ HS2.out (fun hH => ?_)
 clear hK K
 try simp only [zz]
 refine rY 6 fun K hK => ?_
 go_simp
 go_at_call 127
 refine (HT.out _ F2.out.1).mono ?_
 rintro e w3 ⟨rfl, g3⟩
 have g3' : Fp Non _ _ := g3
 have F3 := zI (yI (F2.out.1.then g3') (g3'.heap F2.out.2 id))
 have HS3 := zI (yI (boxP7 F3.out.2).2.2.1 (boxP7 F3.out.2).2.1)
 clear g3 g3'
 go_wp2_with fail
 refine hK.out _ _ HS3.out (fun hH => ?_)
 clear hK K
 try simp only [zz]
 refine rY 7 fun K hK => ?_
 go_simp
 go_at_call 160
 refine (HN.out _ (HTab.out.non F3.out.1)).mono ?_
 rintro e w4 ⟨rfl, g4⟩
 have g4' : Fp Non _ _ := Gr.fp g4
 have F4 := zI (yI (F3.out.1.then g4') (g4'.heap F3.out.2 id))
 have HS4 := zI (yI (boxP7 F4.out.2).2.2.1 (boxP7 F4.out.2).2.1)
 clear g4 g4'
 go_wp2_with fail
 refine hK.out _ _ HS4.out (fun hH => ?_)
 clear hK K
 try simp only [zz]
 refine tk 8 hH ?_
 refine tk 9 hH ?_
 refine tk 10 hH ?_
 refine tk 11 hH ?_
 refine tk 12 hH ?_
 refine dn ?_
 obtain ⟨s0, s1⟩ := HS4.out
 go_wp2_with fail
 refine (HJ.out _).mono ?_
 rintro e w5 ⟨rfl, g5⟩
 have F5 := zI (F4.out.1.then (Gr.fp g5))
 clear g5 s0 s1
 go_wp2
 go_ret2
 exact ⟨rfl, F5.out⟩
structure PmR (lo b : Nat) (vn vt : Value) (s' : St) (r : Res) (w : World) (e : Ending) (w' : World) : Prop where
 ex : ∃ nv vn' vt', e = .returned (.agg #[.int .i64 r.err, strV r.path, strV r.data, .int .i64 r.ver, nv]) ∧ Own w.heap.size w' nv r.names ∧ Sw lo b vn' vt' s' w'
 fp : Fp (ownS b vn vt) w w'
theorem PmR.still {lo b : Nat} {vn vt : Value} {s : St} {w w' : World} {r : Res} {nv : Value} (h : Sw lo b vn vt s w) (f : Fp Non w w') (ho : Own w.heap.size w' nv r.names) :
  PmR lo b vn vt s r w (.returned (.agg #[.int .i64 r.err, strV r.path, strV r.data, .int .i64 r.ver, nv])) w' := ⟨⟨nv, vn, vt, rfl, ho, h.non f⟩, f.any⟩
structure Bp (w : World) (k : Int) (d p da : Bs) (v o : Int) (t : Bool) (W : World) : Prop where
 op : W.heap[w.heap.size]? = some (.cells #[.int .i64 k, .string (B d), .string (B p), .string (B da), .int .i64 v, .int .i64 o, .bool t] TP (0, 0))
 res : W.heap[w.heap.size + 1]? = some (.cells #[.int .i64 0, .string ⟨#[]⟩, .string ⟨#[]⟩, .int .i64 0, .slice none 0 0] TR (0, 0))
 sz : w.heap.size + 2 ≤ W.heap.size
theorem Bp.made (w : World) (k : Int) (d p da : Bs) (v o : Int) (t : Bool) : Bp w k d p da v o t ((w.alloc (.cells #[.int .i64 k, .string (B d), .string (B p), .string (B da), .int .i64 v, .int .i64 o, .bool t] TP)).alloc (.cells #[.int .i64 0, .string ⟨#[]⟩, .string ⟨#[]⟩, .int .i64 0, .slice none 0 0] TR)) := by
 refine ⟨?_, ?_, by simp⟩
 ·exact Fp.heap ((Fp.refl Non (w.alloc (.cells #[.int .i64 k, .string (B d), .string (B p), .string (B da), .int .i64 v, .int .i64 o, .bool t] TP))).alloc _) (heap_alloc_new w _) id
 have := heap_alloc_new (w.alloc (.cells #[.int .i64 k, .string (B d), .string (B p), .string (B da), .int .i64 v, .int .i64 o, .bool t] TP)) (.cells #[.int .i64 0, .string ⟨#[]⟩, .string ⟨#[]⟩, .int .i64 0, .slice none 0 0] TR)
 simpa using this
section
variable {w W W' : World} {k : Int} {d p da : Bs} {v o : Int} {t : Bool}
theorem Bp.keep (h : Bp w k d p da v o t W) {S : Nat → Prop} (f : Fp S W W') (hS : ∀ k, S k → k < w.heap.size ∨ w.heap.size + 2 ≤ k) : Bp w k d p da v o t W' :=
 ⟨f.heap h.op (fun h => by have := hS _ h; omega), f.heap h.res (fun h => by have := hS _ h; omega), Nat.le_trans h.sz f.size⟩
theorem Bp.non (h : Bp w k d p da v o t W) (f : Fp Non W W') : Bp w k d p da v o t W' := h.keep f (fun _ h => h.elim)
theorem Bp.r (h : Bp w k d p da v o t W) : W.cell? ⟨w.heap.size + 1, 0, none⟩ = some (.int .i64 0) ∧ W.cell? ⟨w.heap.size + 1, 1, none⟩ = some (.string ⟨#[]⟩) ∧ W.cell? ⟨w.heap.size + 1, 2, none⟩ = some (.string ⟨#[]⟩) ∧ W.cell? ⟨w.heap.size + 1, 3, none⟩ = some (.int .i64 0) ∧ W.cell? ⟨w.heap.size + 1, 4, none⟩ = some (.slice none 0 0) :=
 ⟨by rw [cell_of_row _ _ _ _ _ _ h.res]; rfl, by rw [cell_of_row _ _ _ _ _ _ h.res]; rfl, by rw [cell_of_row _ _ _ _ _ _ h.res]; rfl, by rw [cell_of_row _ _ _ _ _ _ h.res]; rfl, by rw [cell_of_row _ _ _ _ _ _ h.res]; rfl⟩
theorem Bp.fz (h : Bp w k d p da v o t W) : ∀ j, W.frozen? ⟨w.heap.size + 1, j, none⟩ = false := fun j => by simp [World.frozen?, h.res]
theorem Kp.bp (h : Bp w k d p da v o t W) : Kp (fun W' => Bp w k d p da v o t W') W := fun W' f => h.non f
end
theorem Kp.sw {lo b : Nat} {vn vt : Value} {s : St} {W : World} (h : Sw lo b vn vt s W) : Kp (fun W' => Sw lo b vn vt s W') W := fun W' f => h.non f
theorem Sw.keep {lo b : Nat} {vn vt : Value} {s : St} {w w' : World} (h : Sw lo b vn vt s w) {S : Nat → Prop} (f : Fp S w w') (hb : ¬ S b) (h1 : ∀ k, vn.ownBlock = some k → ¬ S k) (h2 : ∀ k, vt.ownBlock = some k → ¬ S k) : Sw lo b vn vt s w' :=
 ⟨f.heap h.blk hb, h.low, h.own.keep f h1, h.ownT.keep f h2, h.neN, h.neT, h.apart⟩
structure Chd (lo b : Nat) (vn vt : Value) (s' : St) (w : World) (k : Int) (d p da : Bs) (v o : Int) (t : Bool) (W : World) : Prop where
 ex : ∃ vn' vt', Sw lo b vn' vt' s' W ∧ vn'.ownBlock ≠ some (w.heap.size + 1) ∧ vt'.ownBlock ≠ some (w.heap.size + 1)
 bp : Bp w k d p da v o t W
 fp : Fp (ownS b vn vt) w W
 lt : b < w.heap.size
theorem Chd.still {lo b : Nat} {vn vt : Value} {s : St} {w W : World} {k : Int} {d p da : Bs} {v o : Int} {t : Bool} (h0 : Sw lo b vn vt s w) (h : Sw lo b vn vt s W) (hb : Bp w k d p da v o t W) (f : Fp Non w W) : Chd lo b vn vt s w k d p da v o t W :=
 ⟨⟨vn, vt, h, fun e => by have := h0.ltN _ e; omega, fun e => by have := h0.ltT _ e; omega⟩, hb, f.any, h0.lt⟩
theorem Chd.non {lo b : Nat} {vn vt : Value} {s' : St} {w W W' : World} {k : Int} {d p da : Bs} {v o : Int} {t : Bool} (h : Chd lo b vn vt s' w k d p da v o t W) (f : Fp Non W W') : Chd lo b vn vt s' w k d p da v o t W' := by
 obtain ⟨vn', vt', h1, h2, h3⟩ := h.ex
 exact ⟨⟨vn', vt', h1.non f, h2, h3⟩, h.bp.non f, h.fp.then f, h.lt⟩
theorem Chd.done {lo b : Nat} {vn vt : Value} {s' : St} {w W : World} {k : Int} {d p da : Bs} {v o : Int} {t : Bool} (h : Chd lo b vn vt s' w k d p da v o t W) (r : Res) (nv : Value) (ho : Own w.heap.size W nv r.names) (hnb : nv.ownBlock = some (w.heap.size + 1) → False)
  (re : Int) (rp rd : ByteArray) (rv : Int) (e1 : re = r.err) (e2 : rp = B r.path) (e3 : rd = B r.data) (e4 : rv = r.ver) :
  PmR lo b vn vt s' r w (.returned (.agg #[.int .i64 re, .string rp, .string rd, .int .i64 rv, nv]))
   (((((W.setCell ⟨w.heap.size + 1, 0, none⟩ (.int .i64 re)).setCell ⟨w.heap.size + 1, 1, none⟩ (.string rp)).setCell ⟨w.heap.size + 1, 2, none⟩ (.string rd)).setCell ⟨w.heap.size + 1, 3, none⟩ (.int .i64 rv)).setCell ⟨w.heap.size + 1, 4, none⟩ nv) := by
 subst e1 e2 e3 e4
 obtain ⟨vn', vt', h1, h2, h3⟩ := h.ex
 have fk := fp5 (S := fun k => k = w.heap.size + 1) (Fp.refl _ W) (b := w.heap.size + 1) (.inl rfl) (.int .i64 r.err) (.string (B r.path)) (.string (B r.data)) (.int .i64 r.ver) nv
 refine ⟨⟨nv, vn', vt', rfl, own5 ho hnb _ _ _ _ _, h1.keep fk (fun e => by have := h.lt; omega) (fun k hk e => h2 (by rw [hk, e])) (fun k hk e => h3 (by rw [hk, e]))⟩, ?_⟩
 exact fp5 (S := ownS b vn vt) h.fp (b := w.heap.size + 1) (.inr (by omega)) _ _ _ _ _
end Go.Proofs.YtphoglepiegeiaaGreatDoor
