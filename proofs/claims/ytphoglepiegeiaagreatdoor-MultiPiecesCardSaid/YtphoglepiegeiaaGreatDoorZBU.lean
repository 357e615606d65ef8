/- A text of this proof. -/
import Derived.Test.YtphoglepiegeiaaGreatDoorZBD
import Derived.Test.YtphoglepiegeiaaGreatDoorZBK
import Derived.Test.YtphoglepiegeiaaGreatDoorZBL
import Derived.Test.YtphoglepiegeiaaGreatDoorZBQ
import Derived.Test.YtphoglepiegeiaaGreatDoorZBT
set_option linter.unusedSimpArgs false
set_option linter.unusedVariables false
namespace Go.Proofs.YtphoglepiegeiaaGreatDoor
set_option maxRecDepth 20000
open Go.RowKit Pm
set_option maxHeartbeats 2000000 in
theorem node_none {lo b : Nat} {vn vt : Value} {s : St} {w : World} (h : Sw lo b vn vt s w) (x : Pt) (ha : Asc s.nodes) (hn : s.nodes.length ≤ 1000000) (hf : find s.nodes x.path = none) :
  Calls Tryz.prog 123 #[.pointer (some ⟨b, 0, none⟩), ptV x] w fun e w' => e = .returned (.tuple #[.pointer none, .int .i64 62]) ∧ Fp Non w w' := by
 obtain ⟨k, d, p, da, v, o, t⟩ := x
 simp only at hf
 obtain ⟨q, hq⟩ : ∃ q, q = place s.nodes p := ⟨_, rfl⟩
 have hs := fun w' (f : Fp Non w w') => placeP_c vn s.nodes p w' (h.own.ns.non f) ha hn
 rw [hf, ← hq] at hs
 simp only [Option.isSome_none] at hs
 have HS := Lib.hid hs
 have HA := Lib.hid (fun o => fp_alloc w o)
 have hc0 := h.c0
 obtain ⟨ao, cap, rfl⟩ := h.own.ns.shape
 have HD := Lib.hid (((Fp.refl Non w).alloc (Obj.cells #[.int .i64 k, .string (B d), .string (B p), .string (B da), .int .i64 v, .int .i64 o, .bool t] TP)).drew)
 have HS0 := Lib.hid (And.intro (HD.out.cell hc0 id) ((Fp.refl Non _).drew.cell (boxP7 (heap_alloc_new w (Obj.cells #[.int .i64 k, .string (B d), .string (B p), .string (B da), .int .i64 v, .int .i64 o, .bool t] TP))).2.2.1 id))
 unfold ptV strV
 generalize s.nodes.length = n at *
 clear hs h hn ha hf hq hc0
 go_enter Tryz.func123, Tryz.ntmps123
 go_wp2_with fail
 refine wp_region_held_drew (S := (fun w' => w'.cell? ⟨b, 0, none⟩ = some (.slice ao n cap) ∧ w'.cell? ⟨w.heap.size, 2, none⟩ = some (.string (B p)))) (by kernel_rfl) ?_ (fun hH => ?_)
 ·exact HS0.out
 refine tk 0 hH ?_
 refine tk 1 hH ?_
 refine tk 2 hH ?_
 refine tk 3 hH ?_
 refine tk 4 hH ?_
 refine tk 5 hH ?_
 refine rY 6 fun K hK => ?_
 go_simp
 go_at_call 107
 refine (HS.out _ HD.out).mono ?_
 rintro e w1 ⟨rfl, hf⟩
 have HS1 := Lib.hid (And.intro (hf.cell HS0.out.1 id) (hf.cell HS0.out.2 id))
 have HF := Lib.hid (HD.out.then hf)
 clear hf
 go_wp2_with fail
 refine hK.out _ _ HS1.out (fun hH => ?_)
 clear hK K
 try simp only [zz]
 refine tk 7 hH ?_
 refine tk 8 hH ?_
 refine tk 9 hH ?_
 refine tk 10 hH ?_
 refine tk 11 hH ?_
 refine dn ?_
 go_wp2
 go_ret2
 exact ⟨rfl, HF.out⟩
set_option maxHeartbeats 2000000 in
theorem node_some {lo b : Nat} {vn vt : Value} {s : St} {w : World} (h : Sw lo b vn vt s w) (x : Pt) (ha : Asc s.nodes) (hn : s.nodes.length ≤ 1000000) {y : Nd} (hf : find s.nodes x.path = some y) :
  Calls Tryz.prog 123 #[.pointer (some ⟨b, 0, none⟩), ptV x] w fun e w' => ∃ G, vn.ownBlock = some G ∧ NdAt w G (place s.nodes x.path * 5) y ∧ e = .returned (.tuple #[.pointer (some ⟨G, place s.nodes x.path * 5, none⟩), .int .i64 0]) ∧ Fp Non w w' := by
 obtain ⟨k, d, p, da, v, o, t⟩ := x
 simp only at hf ⊢
 have hfp := find_place ha p
 rw [hf] at hfp
 obtain ⟨q, hq⟩ : ∃ q, q = place s.nodes p := ⟨_, rfl⟩
 rw [← hq]
 have hql : q < s.nodes.length := by
  apply Decidable.byContradiction; intro c
  rw [dif_neg (by rw [← hq]; exact c)] at hfp; cases hfp
 have hy : s.nodes[q] = y := by
  subst hq
  rw [dif_pos hql] at hfp
  split at hfp
  ·exact (Option.some.inj hfp).symm
  cases hfp
 have hs := fun w' (f : Fp Non w w') => placeP_c vn s.nodes p w' (h.own.ns.non f) ha hn
 rw [hf, ← hq] at hs
 simp only [Option.isSome_some] at hs
 have HS := Lib.hid hs
 have HA := Lib.hid (fun o => fp_alloc w o)
 have hc := h.c0
 rcases h.own.ways with ⟨_, e⟩ | ⟨G, cap, rfl, h1, _⟩
 ·rw [e] at hql; simp at hql
 have hnd := h1.nd q hql
 rw [hy, Nat.zero_add] at hnd
 obtain ⟨n, hnn⟩ : ∃ n, n = s.nodes.length := ⟨_, rfl⟩
 rw [← hnn] at hc hn hql HS ⊢
 have q3 : ((q : Int) < (n : Int)) = True := eq_true (by omega)
 have q4 : (q < n) = True := eq_true (by omega)
 have HC := Lib.hid (And.intro hc hnd)
 have HD := Lib.hid (((Fp.refl Non w).alloc (Obj.cells #[.int .i64 k, .string (B d), .string (B p), .string (B da), .int .i64 v, .int .i64 o, .bool t] TP)).drew)
 have HS0 := Lib.hid (And.intro (HD.out.cell hc id) ((Fp.refl Non _).drew.cell (boxP7 (heap_alloc_new w (Obj.cells #[.int .i64 k, .string (B d), .string (B p), .string (B da), .int .i64 v, .int .i64 o, .bool t] TP))).2.2.1 id))
 unfold ptV strV
 clear hs h ha hf hfp hq hql hy h1 hnd hnn hc
 go_enter Tryz.func123, Tryz.ntmps123
 go_wp2_with fail
 refine wp_region_held_drew (S := (fun w' => w'.cell? ⟨b, 0, none⟩ = some (.slice (some ⟨G, 0, none⟩) n cap) ∧ w'.cell? ⟨w.heap.size, 2, none⟩ = some (.string (B p)))) (by kernel_rfl) ?_ (fun hH => ?_)
 ·exact HS0.out
 refine tk 0 hH ?_
 refine tk 1 hH ?_
 refine tk 2 hH ?_
 refine tk 3 hH ?_
 refine tk 4 hH ?_
 refine tk 5 hH ?_
 refine rY 6 fun K hK => ?_
 go_simp
 go_at_call 107
 refine (HS.out _ HD.out).mono ?_
 rintro e w1 ⟨rfl, hf⟩
 have HS1 := Lib.hid (And.intro (hf.cell HS0.out.1 id) (hf.cell HS0.out.2 id))
 have HF := Lib.hid (HD.out.then hf)
 clear hf
 go_wp2_with fail
 refine hK.out _ _ HS1.out (fun hH => ?_)
 clear hK K
 try simp only [zz]
 refine tk 7 hH ?_
 refine tk 8 hH ?_
 refine tk 9 hH ?_
 refine tk 10 hH ?_
 refine tk 11 hH ?_
 refine dn ?_
 have c0 := HS1.out.1
 go_wp2
 go_ret2
 exact ⟨G, rfl, HC.out.2, rfl, HF.out⟩
def ownS (b : Nat) (vn vt : Value) : Nat → Prop := fun k => k = b ∨ vn.ownBlock = some k ∨ vt.ownBlock = some k
theorem split_len {p : Bs} (h : (split p).isSome = true) : p.length ≤ 100 := by
 obtain ⟨ps, hps⟩ := Option.isSome_iff_exists.1 h
 obtain ⟨hP, e⟩ := (split_iff _ _).1 hps
 have := joinP_len hP
 rw [e] at this; exact this
theorem StR.sp {s : St} (h : StR s) : Sp s.nodes := fun n hn => by
 have := split_len ((sfit_iff n).1 (h.fit n hn)).1; omega
theorem Pd.sub {S T : Nat → Prop} {wc : World} {f : Value} {q : Nd → Bool} (h : Pd S wc f q) (k : ∀ i, T i → S i) : Pd T wc f q := by
 obtain ⟨kf, fi, cap, e, h1, h2⟩ := h.ex
 exact ⟨kf, fi, cap, e, h1, fun n w1 hn hf => h2 n w1 hn (hf.mono k)⟩
set_option maxHeartbeats 2000000 in
theorem DeleteFunc_own {lo : Nat} {w : World} {v f : Value} {l : List Nd} {q : Nd → Bool} (h : Ow lo w v l) (hs : Sp l) (hq : Pd (fun k => v.ownBlock = some k) w f q) (hl : l.length ≤ 4000) :
  Calls Tryz.prog 129 #[v, f] w fun e w' => ∃ v', e = .returned v' ∧ ChR lo w v (l.filter (fun n => !q n)) v' w' := by
 rcases h.ways with ⟨rfl, rfl⟩ | ⟨G, cap, rfl, h1, h2⟩
 ·have HI := Lib.hid (IndexFunc_c (.slice none 0 0) f [] q w (Ns.nil w) hs hq.non (by simp))
  obtain ⟨kf, fi, fc, rfl, hen, hcall⟩ := hq.ex
  clear hq hcall h hs hl
  go_enter Tryz.func129, Tryz.ntmps129
  go_wp2_with fail
  refine HI.out.mono ?_
  rintro e w1 ⟨⟨z, rfl, hz⟩, hf1⟩
  rcases hz with ⟨rfl, hz⟩ | ⟨i, rfl, hil, hqi, hz⟩
  ·have HF := Lib.hid hf1
   clear hf1 hz
   go_wp2
   go_ret
   exact ⟨_, rfl, Ow.nil _ _, HF.out.any, fun k hk => .inl hk⟩
  simp at hil
 refine (DeleteFunc_c h1 hs (hq.sub (fun i hi => by rw [hi]; rfl)) hl).mono ?_
 rintro e w' ⟨v', rfl, hR⟩
 obtain rfl := hR.v
 exact ⟨_, rfl, Ow.row hR.row h2, hR.fp.mono (fun k hk => by rw [hk]; rfl), fun k hk => .inl hk⟩
set_option maxHeartbeats 8000000 in
theorem lastParts_c {lo b : Nat} {vn vt : Value} {s : St} {w : World} {f : Value} {q : Nd → Bool} (h : Sw lo b vn vt s w) (hs : Sp s.nodes) (hq : Pd Non w f q) (hl : s.nodes.length ≤ 4000) :
  Calls Tryz.prog 133 #[.pointer (some ⟨b, 0, none⟩), f] w fun e w' => ∃ v', e = .returned v' ∧ Own w.heap.size w' v' ((s.nodes.filter q).map (fun n => last n.path)) ∧ Fp Non w w' := by
 have c0 := h.c0
 have hns := h.own.ns
 obtain ⟨n, hn⟩ : ∃ n, n = s.nodes.length := ⟨_, rfl⟩
 obtain ⟨kf, fi, fc, rfl, hen, hcall⟩ := hq.ex
 obtain ⟨vao, vcp, rfl⟩ := hns.shape
 rw [← hn] at c0
 have HX := Lib.hid (And.intro hn (And.intro hs (And.intro hcall hns)))
 have hn6 : n ≤ 4000 := by omega
 have H0 : Hid (Own w.heap.size w (.slice none 0 0) (((s.nodes.take 0).filter q).map (fun n => last n.path)) ∧ Fp Non w w) := ⟨by rw [List.take_zero]; exact Own.nil _ _, Fp.refl _ _⟩
 clear hq hcall h hs hn hl hns
 go_enter Tryz.func133, Tryz.ntmps133
 go_wp2_with fail
 go_loopw [5, 13] (fun v i wr => ∃ k : Nat, k ≤ n ∧ i = .int .i64 k ∧ Hid (Own w.heap.size wr v (((s.nodes.take k).filter q).map (fun n => last n.path)) ∧ Fp Non w wr)) (fun _ i _ => n - (RowKit.intOf i).toNat)
 case atStart => exact ⟨0, Nat.zero_le _, rfl, H0⟩
 clear H0
 obtain ⟨k, hk, rfl, hR⟩ := hrel
 rename_i wr _
 by_cases hlt : k < n
 ·have hkl : k < s.nodes.length := by rw [← HX.out.1]; exact hlt
  obtain ⟨g, og, cap', e9, _, _, _, hcell⟩ := HX.out.2.2.2.at (by omega)
  injection e9 with e1 e2 e3
  subst e1 e3
  have hnd := (hcell k hkl).keep hR.out.2 id
  clear hcell
  have hstep := take_step s.nodes k hkl q
  have hcc := fun w1 hf => HX.out.2.2.1 s.nodes[k] w1 (HX.out.2.1 _ (List.getElem_mem hkl)) hf
  have hsp := HX.out.2.1 _ (List.getElem_mem hkl)
  obtain ⟨b, hb⟩ : ∃ b, q s.nodes[k] = b := ⟨_, rfl⟩
  rw [hb] at hcc hstep
  clear hb
  generalize s.nodes[k] = x at *
  have hbx := NdAt.box wr x
  have hla := fun w => Last_g x.path w (sz_of hsp (by omega))
  have c0 := hnd.c0; have c1 := hnd.c1; have c2 := hnd.c2; have c3 := hnd.c3; have c4 := hnd.c4
  unfold strV at c0 c1
  unfold ndV strV at hcc
  have q3 : ((k : Int) < (n : Int)) = True := eq_true (by omega)
  have q4 : (k < n) = True := eq_true hlt
  have HCC := Lib.hid hcc
  have HLA := Lib.hid hla
  have HB := Lib.hid (And.intro hstep hbx)
  have HL := Lib.hid hlt
  clear hnd hcc hstep hbx hkl hlt hla hsp
  go_wp2_with fail
  rw [hen _ _]
  go_wp2_with fail
  refine (HCC.out _ (hR.out.2.trans ((Fp.refl Non wr).alloc _) (fun _ h => h.elim))).mono ?_
  rintro e w2 ⟨rfl, hf2⟩
  have hf2' : Fp Non wr w2 := ((Fp.refl Non wr).alloc _).then hf2
  have hbx2 := (HB.out.2.keep hf2 id).five
  have hown2 : Own w.heap.size w2 _ _ := hR.out.1.grown' hf2'
  cases b with
  | false =>
   have hM : Hid (Own w.heap.size w2 _ (((s.nodes.take (k + 1)).filter q).map (fun n => last n.path)) ∧ Fp Non w w2) := ⟨by rw [HB.out.1]; simpa using hown2, hR.out.2.then hf2'⟩
   have hj1 := HL.out
   clear hf2 hbx2 hown2 hf2'
   go_wp2
   go_roundw
   case rel => exact ⟨k + 1, by omega, by go_num, hM⟩
   case measure => simp [RowKit.intOf]; omega
  | true => ?_
  obtain ⟨b0, _, _, _, _⟩ := hbx2
  have HO2 := Lib.hid (And.intro hown2 (And.intro (hR.out.2.then hf2') hf2'))
  clear hf2 hown2 hf2'
  go_wp2_with fail
  refine (HLA.out _).mono ?_
  rintro e w3 ⟨rfl, g3⟩
  have hown3 : Own w.heap.size w3 _ _ := HO2.out.1.grown' g3.fp
  have hfp3 : Fp Non w w3 := HO2.out.2.1.then g3.fp
  obtain ⟨ps, hps⟩ : ∃ ps, ps = ((s.nodes.take k).filter q).map (fun n => last n.path) := ⟨_, rfl⟩
  rw [← hps] at hown3
  have hpl : ps.length ≤ 4000 := by rw [hps, List.length_map]; exact Nat.le_trans (List.length_filter_le _ _) (by rw [List.length_take]; omega)
  have hap := app_name w3 w.heap.size _ ps (last x.path) TSs hown3 (by omega) hfp3.size
  obtain ⟨vao, vcap, rfl⟩ := hown3.shape
  have HPS := Lib.hid hps
  have HAP := Lib.hid hap
  have HF3 := Lib.hid hfp3
  clear g3 hown3 hfp3 hap hps hpl
  go_wp2_with (at_builtin; go_must (refine wpList_app rfl _ _ _ _ rfl _ _ rfl rfl _ HAP.out ?_))
  intro v4 w4 hR4
  have hM : Hid (Own w.heap.size w4 v4 (((s.nodes.take (k + 1)).filter q).map (fun n => last n.path)) ∧ Fp Non w w4) := ⟨by rw [HB.out.1]; have := hR4.own; rw [HPS.out] at this; simpa using this, HF3.out.trans hR4.fp (fun k hk => .inr hk)⟩
  have hj1 := HL.out
  clear hR4
  go_wp2
  go_roundw
  case rel => exact ⟨k + 1, by omega, by go_num, hM⟩
  case measure => simp [RowKit.intOf]; omega
 have hke : k = n := by omega
 subst hke
 have q3 : ((k : Int) < (k : Int)) = False := eq_false (by omega)
 have hfin := hR.out.1
 rw [List.take_of_length_le (by rw [← HX.out.1]; exact Nat.le_refl _)] at hfin
 have HF := Lib.hid hfin
 clear hlt hk hfin
 go_wp2
 go_ret
 exact ⟨_, rfl, HF.out, hR.out.2⟩
theorem node_at {lo b : Nat} {vn vt : Value} {s : St} {w : World} (h : Sw lo b vn vt s w) (ha : Asc s.nodes) {p : Bs} {y : Nd} (hf : find s.nodes p = some y) : ∃ G, vn.ownBlock = some G ∧ NdAt w G (place s.nodes p * 5) y := by
 obtain ⟨hk, e⟩ := find_at ha hf
 rcases h.own.ways with ⟨_, e2⟩ | ⟨G, cap, rfl, h1, _⟩
 ·rw [e2] at hk; simp at hk
 have := h1.nd _ hk
 rw [e, Nat.zero_add] at this
 exact ⟨G, rfl, this⟩
set_option maxHeartbeats 4000000 in
theorem versioned_none {lo b : Nat} {vn vt : Value} {s : St} {w : World} (h : Sw lo b vn vt s w) (x : Pt) (ha : Asc s.nodes) (hn : s.nodes.length ≤ 1000000) (hf : find s.nodes x.path = none) :
  Calls Tryz.prog 128 #[.pointer (some ⟨b, 0, none⟩), ptV x] w fun e w' => e = .returned (.tuple #[.pointer none, .int .i64 62]) ∧ Fp Non w w' := by
 obtain ⟨k, d, p, da, v, o, t⟩ := x
 have HS := Lib.hid (fun w' (f : Fp Non w w') => node_none (h.non f) ⟨k, d, p, da, v, o, t⟩ ha hn hf)
 have HA := Lib.hid (fun o => fp_alloc w o)
 unfold ptV strV
 unfold ptV strV at HS
 clear h hn ha hf
 go_enter Tryz.func128, Tryz.ntmps128
 go_wp2_with fail
 refine (HS.out _ (HA.out _)).mono ?_
 rintro e w1 ⟨rfl, hf⟩
 have HF := Lib.hid ((HA.out _).then hf)
 clear hf HS
 go_wp2_with fail
 refine wp_region_held_drew (S := (fun _ => True)) (by kernel_rfl) ?_ (fun hH => ?_)
 ·trivial
 refine tk 0 hH ?_
 refine tk 1 hH ?_
 refine tk 2 hH ?_
 refine sk 3 hH ?_
 refine sk 4 hH ?_
 refine sk 5 hH ?_
 refine tk 6 hH ?_
 refine tk 7 hH ?_
 refine sk 8 hH ?_
 refine sk 9 hH ?_
 refine sk 10 hH ?_
 refine sk 11 hH ?_
 refine sk 12 hH ?_
 refine sk 13 hH ?_
 refine sk 14 hH ?_
 refine tk 15 hH ?_
 refine dn ?_
 go_wp2
 go_ret2
 exact ⟨rfl, HF.out.then (Fp.refl Non _).drew⟩
set_option maxHeartbeats 4000000 in
theorem versioned_bad {lo b : Nat} {vn vt : Value} {s : St} {w : World} (h : Sw lo b vn vt s w) (x : Pt) (ha : Asc s.nodes) (hn : s.nodes.length ≤ 1000000) {y : Nd} (hf : find s.nodes x.path = some y) (hbad : 0 ≤ x.ver ∧ x.ver ≠ y.ver) :
  Calls Tryz.prog 128 #[.pointer (some ⟨b, 0, none⟩), ptV x] w fun e w' => e = .returned (.tuple #[.pointer none, .int .i64 63]) ∧ Fp Non w w' := by
 obtain ⟨k, d, p, da, v, o, t⟩ := x
 have hs := fun w' (f : Fp Non w w') => node_some (h.non f) ⟨k, d, p, da, v, o, t⟩ ha hn hf
 simp only at hs
 have hf0 := fp_alloc w (Obj.cells #[.int .i64 k, .string (B d), .string (B p), .string (B da), .int .i64 v, .int .i64 o, .bool t] TP)
 have hb0 := heap_alloc_new w (Obj.cells #[.int .i64 k, .string (B d), .string (B p), .string (B da), .int .i64 v, .int .i64 o, .bool t] TP)
 have HA := Lib.hid (And.intro hf0 hb0)
 simp only at hbad
 obtain ⟨q, hq⟩ : ∃ q, q = place s.nodes p := ⟨_, rfl⟩
 rw [← hq] at hs
 show Calls _ _ _ _ (fun e w' => e = .returned (.tuple #[.pointer none, .int .i64 63]) ∧ Fp Non w w')
 obtain ⟨yp, yd, yv, yt, yo⟩ := y
 unfold ptV strV
 unfold ptV strV at hs
 have HS := Lib.hid hs
 clear h hn ha hf hf0 hb0 hs hq
 have q1 : ((0 : Int) ≤ v) = True := eq_true hbad.1
 have q2 : (v != yv) = true := by simpa using hbad.2
 have q3 : (v == yv) = false := by simpa using hbad.2
 have q4 : (v = yv) = False := eq_false hbad.2
 clear hbad
 go_enter Tryz.func128, Tryz.ntmps128
 go_wp2_with fail
 refine (HS.out _ HA.out.1).mono ?_
 rintro e w1 ⟨G, hG, hnd, rfl, hf⟩
 have HF := Lib.hid (And.intro (HA.out.1.then hf) (And.intro (hf.heap HA.out.2 id) (And.intro (hnd.keep hf id) hG)))
 have HS0 : Hid (w1.drew.cell? ⟨w.heap.size, 4, none⟩ = some (.int .i64 v) ∧ w1.drew.cell? ⟨G, q * 5 + 2, none⟩ = some (.int .i64 yv)) := ⟨(Fp.refl Non w1).drew.cell (boxP7 HF.out.2.1).2.2.2.2.1 id, (Fp.refl Non w1).drew.cell HF.out.2.2.1.c2 id⟩
 clear hf hnd HS hG
 go_wp2_with fail
 refine wp_region_held_drew (S := (fun w' => w'.cell? ⟨w.heap.size, 4, none⟩ = some (.int .i64 v) ∧ w'.cell? ⟨G, q * 5 + 2, none⟩ = some (.int .i64 yv))) (by kernel_rfl) ?_ (fun hH => ?_)
 ·exact HS0.out
 refine tk 0 hH ?_
 refine tk 1 hH ?_
 refine tk 2 hH ?_
 refine tk 3 hH ?_
 refine tk 4 hH ?_
 refine tk 5 hH ?_
 refine tk 6 hH ?_
 refine tk 7 hH ?_
 refine tk 8 hH ?_
 refine tk 9 hH ?_
 refine tk 10 hH ?_
 refine tk 11 hH ?_
 refine tk 12 hH ?_
 refine tk 13 hH ?_
 refine tk 14 hH ?_
 refine tk 15 hH ?_
 refine dn ?_
 go_wp2
 go_ret2
 exact ⟨rfl, HF.out.1.then (Fp.refl Non _).drew⟩
set_option maxHeartbeats 4000000 in
theorem versioned_ok {lo b : Nat} {vn vt : Value} {s : St} {w : World} (h : Sw lo b vn vt s w) (x : Pt) (ha : Asc s.nodes) (hn : s.nodes.length ≤ 1000000) {y : Nd} (hf : find s.nodes x.path = some y) (hbad : ¬ (0 ≤ x.ver ∧ x.ver ≠ y.ver)) :
  Calls Tryz.prog 128 #[.pointer (some ⟨b, 0, none⟩), ptV x] w fun e w' => ∃ G, vn.ownBlock = some G ∧ NdAt w G (place s.nodes x.path * 5) y ∧ e = .returned (.tuple #[.pointer (some ⟨G, place s.nodes x.path * 5, none⟩), .int .i64 0]) ∧ Fp Non w w' := by
 obtain ⟨k, d, p, da, v, o, t⟩ := x
 obtain ⟨G0, hG0, hn0⟩ := node_at h ha hf
 simp only at hG0 hn0
 have hs := fun w' (f : Fp Non w w') => node_some (h.non f) ⟨k, d, p, da, v, o, t⟩ ha hn hf
 simp only at hs
 have hf0 := fp_alloc w (Obj.cells #[.int .i64 k, .string (B d), .string (B p), .string (B da), .int .i64 v, .int .i64 o, .bool t] TP)
 have hb0 := heap_alloc_new w (Obj.cells #[.int .i64 k, .string (B d), .string (B p), .string (B da), .int .i64 v, .int .i64 o, .bool t] TP)
 have HA := Lib.hid (And.intro hf0 hb0)
 simp only at hbad
 obtain ⟨q, hq⟩ : ∃ q, q = place s.nodes p := ⟨_, rfl⟩
 rw [← hq] at hs hn0
 have HND := Lib.hid (And.intro hG0 hn0)
 clear hG0 hn0
 show Calls _ _ _ _ (fun e w' => ∃ G, vn.ownBlock = some G ∧ NdAt w G (place s.nodes p * 5) y ∧ e = .returned (.tuple #[.pointer (some ⟨G, place s.nodes p * 5, none⟩), .int .i64 0]) ∧ Fp Non w w')
 rw [← hq]
 obtain ⟨yp, yd, yv, yt, yo⟩ := y
 unfold ptV strV
 unfold ptV strV at hs
 have HS := Lib.hid hs
 clear h hn ha hf hf0 hb0 hs hq
 by_cases hv : 0 ≤ v
 ·obtain rfl : v = yv := Decidable.byContradiction fun e => hbad ⟨hv, e⟩
  have q1 : ((0 : Int) ≤ v) = True := eq_true hv
  clear hbad hv
  go_enter Tryz.func128, Tryz.ntmps128
  go_wp2_with fail
  refine (HS.out _ HA.out.1).mono ?_
  rintro e w1 ⟨G, hG, hnd, rfl, hf⟩
  obtain rfl : G = G0 := Option.some.inj (hG.symm.trans HND.out.1)
  have HF := Lib.hid (And.intro (HA.out.1.then hf) (And.intro (hf.heap HA.out.2 id) (And.intro (hnd.keep hf id) (And.intro hG HND.out.2))))
  have HS0 : Hid (w1.drew.cell? ⟨w.heap.size, 4, none⟩ = some (.int .i64 v) ∧ w1.drew.cell? ⟨G, q * 5 + 2, none⟩ = some (.int .i64 v)) := ⟨(Fp.refl Non w1).drew.cell (boxP7 HF.out.2.1).2.2.2.2.1 id, (Fp.refl Non w1).drew.cell HF.out.2.2.1.c2 id⟩
  clear hf hnd HS hG
  go_wp2_with fail
  refine wp_region_held_drew (S := (fun w' => w'.cell? ⟨w.heap.size, 4, none⟩ = some (.int .i64 v) ∧ w'.cell? ⟨G, q * 5 + 2, none⟩ = some (.int .i64 v))) (by kernel_rfl) ?_ (fun hH => ?_)
  ·exact HS0.out
  refine tk 0 hH ?_
  refine tk 1 hH ?_
  refine tk 2 hH ?_
  refine tk 3 hH ?_
  refine tk 4 hH ?_
  refine tk 5 hH ?_
  refine tk 6 hH ?_
  refine tk 7 hH ?_
  refine tk 8 hH ?_
  refine tk 9 hH ?_
  refine tk 10 hH ?_
  refine tk 11 hH ?_
  refine tk 12 hH ?_
  refine tk 13 hH ?_
  refine tk 14 hH ?_
  refine tk 15 hH ?_
  refine dn ?_
  go_wp2
  go_ret2
  exact ⟨G, HF.out.2.2.2.1, HF.out.2.2.2.2, rfl, HF.out.1.then (Fp.refl Non _).drew⟩
 have q1 : ((0 : Int) ≤ v) = False := eq_false hv
 clear hbad hv
 go_enter Tryz.func128, Tryz.ntmps128
 go_wp2_with fail
 refine (HS.out _ HA.out.1).mono ?_
 rintro e w1 ⟨G, hG, hnd, rfl, hf⟩
 obtain rfl : G = G0 := Option.some.inj (hG.symm.trans HND.out.1)
 have HF := Lib.hid (And.intro (HA.out.1.then hf) (And.intro (hf.heap HA.out.2 id) (And.intro (hnd.keep hf id) (And.intro hG HND.out.2))))
 have HS0 : Hid (w1.drew.cell? ⟨w.heap.size, 4, none⟩ = some (.int .i64 v) ∧ w1.drew.cell? ⟨G, q * 5 + 2, none⟩ = some (.int .i64 yv)) := ⟨(Fp.refl Non w1).drew.cell (boxP7 HF.out.2.1).2.2.2.2.1 id, (Fp.refl Non w1).drew.cell HF.out.2.2.1.c2 id⟩
 clear hf hnd HS hG
 go_wp2_with fail
 refine wp_region_held_drew (S := (fun w' => w'.cell? ⟨w.heap.size, 4, none⟩ = some (.int .i64 v) ∧ w'.cell? ⟨G, q * 5 + 2, none⟩ = some (.int .i64 yv))) (by kernel_rfl) ?_ (fun hH => ?_)
 ·exact HS0.out
 refine tk 0 hH ?_
 refine tk 1 hH ?_
 refine tk 2 hH ?_
 refine tk 3 hH ?_
 refine tk 4 hH ?_
 refine tk 5 hH ?_
 refine tk 6 hH ?_
 refine tk 7 hH ?_
 refine sk 8 hH ?_
 refine sk 9 hH ?_
 refine sk 10 hH ?_
 refine sk 11 hH ?_
 refine sk 12 hH ?_
 refine sk 13 hH ?_
 refine sk 14 hH ?_
 refine tk 15 hH ?_
 refine dn ?_
 go_wp2
 go_ret2
 exact ⟨G, HF.out.2.2.2.1, HF.out.2.2.2.2, rfl, HF.out.1.then (Fp.refl Non _).drew⟩
section
variable {lo b : Nat} {vn vt : Value} {s : St} {w w1 w2 : World}
theorem Sw.lt (h : Sw lo b vn vt s w) : b < w.heap.size := (Array.getElem?_eq_some_iff.1 h.blk).1
theorem Sw.ltN (h : Sw lo b vn vt s w) : ∀ k, vn.ownBlock = some k → k < w.heap.size := fun k hk => (World.ownsRow.lt h.own k hk).2
theorem Sw.ltT (h : Sw lo b vn vt s w) : ∀ k, vt.ownBlock = some k → k < w.heap.size := fun k hk => (World.ownsRow.lt h.ownT k hk).2
theorem Sw.putT (h : Sw lo b vn vt s w) {vt' : Value} {l' : List Tu} (f0 : Fp Non w w1) (c : ChTR lo w1 vt l' vt' w2) :
  Sw lo b vn vt' ⟨s.nodes, l'⟩ (w2.setCell ⟨b, 1, none⟩ vt') ∧ Fp (fun k => k = b ∨ vt.ownBlock = some k) w (w2.setCell ⟨b, 1, none⟩ vt') ∧ ∀ k, vt'.ownBlock = some k → vt.ownBlock = some k ∨ w.heap.size ≤ k := by
 have hb1 := (h.non f0).blk
 have hbl := (h.non f0).lt
 have hb2 := c.fp.heap hb1 (fun e => h.neT e)
 have fs : Fp (fun k => k = b) w2 (w2.setCell ⟨b, 1, none⟩ vt') := (Fp.refl (fun k => k = b) w2).setCell (p := ⟨b, 1, none⟩) (.inl rfl) _
 have hne : vt'.ownBlock ≠ some b := fun e => (c.new b e).elim h.neT (fun k => by omega)
 have hlt := (h.non f0).ltN
 refine ⟨⟨heap_setCell_same w2 b 1 _ TS _ hb2, h.low, ?_, c.own.keep fs (fun k hk e => hne (by rw [hk, e])), h.neN, hne, fun k hk e => ?_⟩, ?_, fun k hk => ?_⟩
 ·exact ((h.own.non f0).keep c.fp (fun k hk e => h.apart k hk e)).keep fs (fun k hk e => h.neN (by rw [hk, e]))
 ·rcases c.new k e with e | e
  ·exact h.apart k hk e
  have := hlt k hk; omega
 ·exact ((f0.any (S := fun k => k = b ∨ vt.ownBlock = some k)).same (c.fp.mono (fun k hk => .inr hk))).same (fs.mono (fun k hk => .inl hk))
 rcases c.new k hk with e | e
 ·exact .inl e
 have := f0.size; exact .inr (by omega)
theorem Sw.putN (h : Sw lo b vn vt s w) {vn' : Value} {l' : List Nd} (f0 : Fp Non w w1) (c : ChR lo w1 vn l' vn' w2) :
  Sw lo b vn' vt ⟨l', s.turns⟩ (w2.setCell ⟨b, 0, none⟩ vn') ∧ Fp (fun k => k = b ∨ vn.ownBlock = some k) w (w2.setCell ⟨b, 0, none⟩ vn') ∧ ∀ k, vn'.ownBlock = some k → vn.ownBlock = some k ∨ w.heap.size ≤ k := by
 have hb1 := (h.non f0).blk
 have hbl := (h.non f0).lt
 have hb2 := c.fp.heap hb1 (fun e => h.neN e)
 have fs : Fp (fun k => k = b) w2 (w2.setCell ⟨b, 0, none⟩ vn') := (Fp.refl (fun k => k = b) w2).setCell (p := ⟨b, 0, none⟩) (.inl rfl) _
 have hne : vn'.ownBlock ≠ some b := fun e => (c.new b e).elim h.neN (fun k => by omega)
 have hlt := (h.non f0).ltT
 refine ⟨⟨heap_setCell_same w2 b 0 _ TS _ hb2, h.low, c.own.keep fs (fun k hk e => hne (by rw [hk, e])), ?_, hne, h.neT, fun k hk e => ?_⟩, ?_, fun k hk => ?_⟩
 ·exact ((h.ownT.non f0).keep c.fp (fun k hk e => h.apart k e hk)).keep fs (fun k hk e => h.neT (by rw [hk, e]))
 ·rcases c.new k hk with k' | k'
  ·exact h.apart k k' e
  have := hlt k e; omega
 ·exact ((f0.any (S := fun k => k = b ∨ vn.ownBlock = some k)).same (c.fp.mono (fun k hk => .inr hk))).same (fs.mono (fun k hk => .inl hk))
 rcases c.new k hk with e | e
 ·exact .inl e
 have := f0.size; exact .inr (by omega)
end
theorem Fp.then_any {S : Nat → Prop} {a b c : World} (f : Fp Non a b) (g : Fp S b c) : Fp S a c := (f.any (S := S)).same g
structure SetR (lo b : Nat) (vn vt : Value) (s : St) (T : List Tu) (w w' : World) : Prop where
 ex : ∃ vt', Sw lo b vn vt' ⟨s.nodes, T⟩ w' ∧ ∀ k, vt'.ownBlock = some k → vt.ownBlock = some k ∨ w.heap.size ≤ k
 fp : Fp (fun k => k = b ∨ vt.ownBlock = some k) w w'
theorem SetR.still {lo b : Nat} {vn vt : Value} {s : St} {w w' : World} (h : Sw lo b vn vt s w) (f : Fp Non w w') : SetR lo b vn vt s s.turns w w' :=
 ⟨⟨vt, h.non f, fun k hk => .inl hk⟩, f.any⟩
theorem SetR.then {lo b : Nat} {vn vt vt1 : Value} {s : St} {T1 T2 : List Tu} {w w1 w2 : World} (hn : ∀ k, vt1.ownBlock = some k → vt.ownBlock = some k ∨ w.heap.size ≤ k) (f : Fp (fun k => k = b ∨ vt.ownBlock = some k) w w1) (g : SetR lo b vn vt1 ⟨s.nodes, T1⟩ T2 w1 w2) : SetR lo b vn vt s T2 w w2 := by
 obtain ⟨vt2, h1, h2⟩ := g.ex
 refine ⟨⟨vt2, h1, fun k hk => ?_⟩, f.trans g.fp (fun k hk => ?_)⟩
 ·rcases h2 k hk with e | e
  ·exact hn k e
  have := f.size; exact .inr (by omega)
 rcases hk with e | e
 ·exact .inl (.inl e)
 rcases hn k e with e2 | e2
 ·exact .inl (.inr e2)
 exact .inr e2
theorem placeT_le (l : List Tu) (p : Bs) : placeT l p ≤ l.length := List.countP_le_length
theorem insS {lo b : Nat} {vn vt : Value} {s : St} {w : World} (h : Sw lo b vn vt s w) (p : Bs) (n : Int) (k : Nat) (hk : k ≤ s.turns.length) (hl : s.turns.length ≤ 4000) :
  Calls Tryz.prog 167 #[vt, .int .i64 (k : Int), .slice (some ⟨w.heap.size, 0, none⟩) 1 1] (w.alloc (.cells #[.string (B p), .int .i64 n] TU)) fun e w' => ∃ v', e = .returned v' ∧ ChTR lo (w.alloc (.cells #[.string (B p), .int .i64 n] TU)) vt (insT s.turns k ⟨p, n⟩) v' w' := by
 have hf := fp_alloc w (.cells #[.string (B p), .int .i64 n] TU)
 refine InsertT_own (h.non hf).ownT k hk (X := w.heap.size) (x := ⟨p, n⟩) (heap_alloc_new w _) (fun e => by have := h.ltT _ e; omega) hl ?_
 have := h.low; have := h.lt; simp; omega
theorem delS {lo b : Nat} {vn vt : Value} {s : St} {w : World} (h : Sw lo b vn vt s w) (k : Nat) (hk : k < s.turns.length) (hl : s.turns.length ≤ 4000) :
  Calls Tryz.prog 166 #[vt, .int .i64 (k : Int), .int .i64 ((k : Int) + 1)] w fun e w' => ∃ v', e = .returned v' ∧ ChTR lo w vt (s.turns.eraseIdx k) v' w' := DeleteT_own h.ownT k hk hl
set_option maxHeartbeats 4000000 in
theorem setTurn_c {lo b : Nat} {vn vt : Value} {s : St} {w : World} (h : Sw lo b vn vt s w) (p : Bs) (n : Int) (ha : AscT s.turns) (hl : s.turns.length ≤ 3900) :
  Calls Tryz.prog 126 #[.pointer (some ⟨b, 0, none⟩), .string (B p), .int .i64 n] w fun e w' => e = .returned (.tuple #[]) ∧ SetR lo b vn vt s (setT s.turns p n) w w' := by
 have hs := turnPlace_c h p ha (by omega)
 obtain ⟨k, hk⟩ : ∃ k, k = placeT s.turns p := ⟨_, rfl⟩
 have hkl : k ≤ s.turns.length := by rw [hk]; exact placeT_le _ _
 have hk4 : k ≤ 4000 := by omega
 obtain ⟨T, hT⟩ : ∃ T, T = setT s.turns p n := ⟨_, rfl⟩
 rw [← hT]
 unfold setT at hT
 rw [← hk] at hs hT
 obtain ⟨n0, hn0⟩ : ∃ n0, n0 = s.turns.length := ⟨_, rfl⟩
 have hd := h
 cases hf : findT s.turns p with
 | none =>
  rw [hf] at hs hT
  simp only [Option.isSome_none, Bool.false_eq_true, if_false] at hs hT
  have HS := Lib.hid hs
  have HD := Lib.hid (And.intro hd (And.intro hT (And.intro hkl hl)))
  by_cases hn : n = 0
  ·have q1 : (n != 0) = false := by simp [hn]
   have q2 : (n = 0) = True := eq_true hn
   rw [if_neg (by simpa using hn)] at hT
   have HT := Lib.hid hT
   clear hs h hd hT hkl hl hf hk hn ha hn0
   go_enter Tryz.func126, Tryz.ntmps126
   go_wp2_with fail
   refine HS.out.mono ?_
   rintro e w1 ⟨rfl, hf1⟩
   have H1 := Lib.hid (And.intro (HD.out.1.non hf1) hf1)
   clear hf1 HS
   go_wp2
   go_end0
   exact ⟨rfl, by rw [HT.out]; exact SetR.still HD.out.1 H1.out.2⟩
  have q1 : (n != 0) = true := by simpa using hn
  have q2 : (n = 0) = False := eq_false hn
  rw [if_pos hn] at hT
  have HT := Lib.hid hT
  clear hs h hd hT hkl hl hf hk hn ha hn0
  go_enter Tryz.func126, Tryz.ntmps126
  go_wp2_with fail
  refine HS.out.mono ?_
  rintro e w1 ⟨rfl, hf1⟩
  have H1 := Lib.hid (And.intro (HD.out.1.non hf1) hf1)
  clear hf1 HS
  have c1 := (H1.out.1).c1
  have z1 := (H1.out.1).fz 1
  have hi := insS (H1.out.1) p n k HD.out.2.2.1 (by have := HD.out.2.2.2; omega)
  have hsp := (H1.out.1).ownT.ns.shape
  have HI := Lib.hid hi
  have hf4 := fp_alloc w1 (.cells #[.string (B p), .int .i64 n] TU)
  have HF4 := Lib.hid hf4
  have c14 := hf4.cell c1 id
  clear hi hf4
  obtain ⟨ai, ci, rfl⟩ := hsp
  go_wp2_with fail
  refine HI.out.mono ?_
  rintro e w5 ⟨v5, rfl, hc⟩
  have hp5 := (H1.out.1).putT HF4.out hc
  have hb5 := hc.fp.cell c14 (fun e => (H1.out.1).neT e)
  have z5 : w5.frozen? ⟨b, 1, none⟩ = false := by have := hc.fp.heap ((H1.out.1).non HF4.out).blk (fun e => (H1.out.1).neT e); simp [World.frozen?, this]
  obtain ⟨a5, c5, rfl⟩ := hc.own.ns.shape
  have HP5 := Lib.hid hp5
  clear hc hp5 c1 z1 c14
  go_wp2_with fail
  go_end0
  exact ⟨rfl, by rw [HT.out]; exact ⟨⟨_, HP5.out.1, fun k hk => (HP5.out.2.2 k hk).imp id (fun h => Nat.le_trans H1.out.2.size h)⟩, H1.out.2.then_any HP5.out.2.1⟩⟩
 | some t => ?_
 have hfp := findT_place ha p
 rw [hf, ← hk] at hfp
 have hkl2 : k < s.turns.length := by
  apply Decidable.byContradiction; intro c
  rw [dif_neg c] at hfp; cases hfp
 rw [hf] at hs hT
 simp only [Option.isSome_some, if_true] at hs hT
 have HS := Lib.hid hs
 have HD := Lib.hid (And.intro hd (And.intro hT (And.intro hkl2 hl)))
 clear hfp
 by_cases hn : n = 0
 ·have q1 : (n != 0) = false := by simp [hn]
  have q2 : (n = 0) = True := eq_true hn
  rw [if_neg (by simpa using hn)] at hT
  have HT := Lib.hid hT
  clear hs h hd hT hkl hkl2 hl hf hk hn ha hn0
  go_enter Tryz.func126, Tryz.ntmps126
  go_wp2_with fail
  refine HS.out.mono ?_
  rintro e w1 ⟨rfl, hf1⟩
  have H1 := Lib.hid (And.intro (HD.out.1.non hf1) hf1)
  clear hf1 HS
  have c1 := H1.out.1.c1
  have z1 := H1.out.1.fz 1
  have hi := delS H1.out.1 k HD.out.2.2.1 (by have := HD.out.2.2.2; omega)
  have hsp := H1.out.1.ownT.ns.shape
  have HI := Lib.hid hi
  clear hi
  obtain ⟨ad, cd, rfl⟩ := hsp
  go_wp2_with fail
  refine HI.out.mono ?_
  rintro e w2 ⟨v2, rfl, hc⟩
  have hp2 := H1.out.1.putT (Fp.refl Non w1) hc
  have hb2 := hc.fp.cell c1 (fun e => H1.out.1.neT e)
  have z2 : w2.frozen? ⟨b, 1, none⟩ = false := by have := hc.fp.heap H1.out.1.blk (fun e => H1.out.1.neT e); simp [World.frozen?, this]
  have hle : (s.turns.eraseIdx k).length ≤ 4000 := by rw [List.length_eraseIdx]; have := HD.out.2.2.2; split <;> omega
  have hke : k ≤ (s.turns.eraseIdx k).length := by rw [List.length_eraseIdx, if_pos HD.out.2.2.1]; have := HD.out.2.2.1; omega
  have HLE := Lib.hid (And.intro hke hle)
  obtain ⟨l1, hl1⟩ : ∃ l1, l1 = s.turns.eraseIdx k := ⟨_, rfl⟩
  rw [← hl1] at hc hp2 HLE HT
  obtain ⟨a2, c2, rfl⟩ := hc.own.ns.shape
  have HP2 := Lib.hid (And.intro hp2 (H1.out.2.then_any hp2.2.1))
  have HL1 := Lib.hid hl1
  clear hc hp2 c1 z1 HI hle hke hl1
  go_wp2
  go_end0
  exact ⟨rfl, by rw [HT.out]; exact ⟨⟨_, HP2.out.1.1, fun k hk => (HP2.out.1.2.2 k hk).imp id (fun h => Nat.le_trans H1.out.2.size h)⟩, HP2.out.2⟩⟩
 have q1 : (n != 0) = true := by simpa using hn
 have q2 : (n = 0) = False := eq_false hn
 rw [if_pos hn] at hT
 have HT := Lib.hid hT
 clear hs h hd hT hkl hkl2 hl hf hk hn ha hn0
 go_enter Tryz.func126, Tryz.ntmps126
 go_wp2_with fail
 refine HS.out.mono ?_
 rintro e w1 ⟨rfl, hf1⟩
 have H1 := Lib.hid (And.intro (HD.out.1.non hf1) hf1)
 clear hf1 HS
 have c1 := H1.out.1.c1
 have z1 := H1.out.1.fz 1
 have hi := delS H1.out.1 k HD.out.2.2.1 (by have := HD.out.2.2.2; omega)
 have hsp := H1.out.1.ownT.ns.shape
 have HI := Lib.hid hi
 clear hi
 obtain ⟨ad, cd, rfl⟩ := hsp
 go_wp2_with fail
 refine HI.out.mono ?_
 rintro e w2 ⟨v2, rfl, hc⟩
 have hp2 := H1.out.1.putT (Fp.refl Non w1) hc
 have hb2 := hc.fp.cell c1 (fun e => H1.out.1.neT e)
 have z2 : w2.frozen? ⟨b, 1, none⟩ = false := by have := hc.fp.heap H1.out.1.blk (fun e => H1.out.1.neT e); simp [World.frozen?, this]
 have hle : (s.turns.eraseIdx k).length ≤ 4000 := by rw [List.length_eraseIdx]; have := HD.out.2.2.2; split <;> omega
 have hke : k ≤ (s.turns.eraseIdx k).length := by rw [List.length_eraseIdx, if_pos HD.out.2.2.1]; have := HD.out.2.2.1; omega
 have HLE := Lib.hid (And.intro hke hle)
 obtain ⟨l1, hl1⟩ : ∃ l1, l1 = s.turns.eraseIdx k := ⟨_, rfl⟩
 rw [← hl1] at hc hp2 HLE HT
 obtain ⟨a2, c2, rfl⟩ := hc.own.ns.shape
 have HP2 := Lib.hid (And.intro hp2 (H1.out.2.then_any hp2.2.1))
 have HL1 := Lib.hid hl1
 clear hc hp2 c1 z1 HI hle hke hl1
 have c1 := (HP2.out.1.1).c1
 have z1 := (HP2.out.1.1).fz 1
 have hi := insS (HP2.out.1.1) p n k HLE.out.1 HLE.out.2
 have hsp := (HP2.out.1.1).ownT.ns.shape
 rw [show (w2.setCell ⟨b, 1, none⟩ (.slice a2 l1.length c2)).heap.size = w2.heap.size from by simp [World.setCell]] at hi
 have HI := Lib.hid hi
 have hf4 := fp_alloc (w2.setCell ⟨b, 1, none⟩ (.slice a2 l1.length c2)) (.cells #[.string (B p), .int .i64 n] TU)
 have HF4 := Lib.hid hf4
 have c14 := hf4.cell c1 id
 clear hi hf4
 clear hsp c1 z1
 go_wp2_with fail
 refine HI.out.mono ?_
 rintro e w5 ⟨v5, rfl, hc⟩
 have hp5 := (HP2.out.1.1).putT HF4.out hc
 have hb5 := hc.fp.cell c14 (fun e => (HP2.out.1.1).neT e)
 have z5 : w5.frozen? ⟨b, 1, none⟩ = false := by have := hc.fp.heap ((HP2.out.1.1).non HF4.out).blk (fun e => (HP2.out.1.1).neT e); simp [World.frozen?, this]
 obtain ⟨a5, c5, rfl⟩ := hc.own.ns.shape
 have HP5 := Lib.hid hp5
 clear hc hp5 c14
 go_wp2_with fail
 go_end0
 exact ⟨rfl, by rw [HT.out]; exact SetR.then (fun k hk => (HP2.out.1.2.2 k hk).imp id (fun h => Nat.le_trans H1.out.2.size h)) HP2.out.2 ⟨⟨_, HP5.out.1, HP5.out.2.2⟩, HP5.out.2.1⟩⟩
end Go.Proofs.YtphoglepiegeiaaGreatDoor
