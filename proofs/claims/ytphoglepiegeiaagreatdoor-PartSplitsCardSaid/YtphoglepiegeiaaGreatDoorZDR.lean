/- A text of this proof. -/
import Derived.Test.YtphoglepiegeiaaGreatDoorZDD
import Derived.Test.YtphoglepiegeiaaGreatDoorZDQ
set_option linter.unusedSimpArgs false
set_option linter.unusedVariables false
namespace Go.Proofs.YtphoglepiegeiaaGreatDoor
set_option maxRecDepth 20000
open Go.RowKit Pm
attribute [local irreducible] wpStill
theorem wrap_small {n : Int} (h1 : -9223372036854775808 ≤ n) (h2 : n ≤ 9223372036854775807) : IntKind.i64.wrap n = n := by
 simp [IntKind.wrap, IntKind.bits, IntKind.signed]; omega
set_option maxHeartbeats 4000000 in
theorem empty_e {lo b : Nat} {vn vt : Value} {s : St} {w : World} (h : Sw lo b vn vt s w) (x : Pt) (hst : StR s) (hm : mayP x = true) (hn : s.nodes.length ≤ 3900) (hnt : s.turns.length ≤ 3900) (ht : Tab w) (hk : x.kind = 4) :
  Calls Tryz.prog 90 #[.pointer (some ⟨b, 0, none⟩), ptV x] w (PmR lo b vn vt (doP s x).1 (doP s x).2 w) := by
 have hp : x.path.length ≤ 100 := split_len ((mayP_iff x).1 hm).2.1
 obtain ⟨k, d, p, da, v, o, t⟩ := x
 obtain rfl : k = 4 := hk
 simp only at hp
 have hf0 : Fp Non w ((w.alloc (.cells #[.int .i64 4, .string (B d), .string (B p), .string (B da), .int .i64 v, .int .i64 o, .bool t] TP)).alloc (.cells #[.int .i64 0, .string ⟨#[]⟩, .string ⟨#[]⟩, .int .i64 0, .slice none 0 0] TR)) := ((Fp.refl Non w).alloc _).alloc _
 have K0 := Lib.hid (Kp.and (Kp.sw (h.non hf0)) (Kp.and (Kp.bp (Bp.made w 4 d p da v o t)) (Kp.and (Kp.fp hf0) (Kp.tab (ht.non hf0)))))
 have HX := Lib.hid (And.intro h (And.intro hst (And.intro hm (And.intro hn hnt))))
 have hpt : ptV ⟨4, d, p, da, v, o, t⟩ = .agg #[.int .i64 4, .string (B d), .string (B p), .string (B da), .int .i64 v, .int .i64 o, .bool t] := rfl
 have HSP := Lib.hid (StR.sp hst)
 have hka := kids_any s.nodes p
 obtain ⟨c, hc⟩ : ∃ c, s.nodes.any (fun n => parent n.path == some p) = c := ⟨_, rfl⟩
 have HAny := Lib.hid hc
 rw [hc] at hka
 cases c with
 | true =>
  have e : doP s ⟨4, d, p, da, v, o, t⟩ = (s, .bad 64) := by
   have : kids s.nodes p ≠ [] := fun k => by have := hka.2 k; cases this
   unfold doP; simp [this]
  rw [e]
  clear hf0 h ht hst hm hn hnt hp e hc hka
  rw [hpt]
  clear hpt
  go_enter Tryz.func90, Tryz.ntmps90
  generalize hW0 : ((w.alloc (.cells #[.int .i64 4, .string (B d), .string (B p), .string (B da), .int .i64 v, .int .i64 o, .bool t] TP)).alloc (.cells #[.int .i64 0, .string ⟨#[]⟩, .string ⟨#[]⟩, .int .i64 0, .slice none 0 0] TR)) = W0 at *
  obtain ⟨o0, o1, o2, o3, o4, o5, o6⟩ := boxP7 K0.out.now.2.1.op
  obtain ⟨ao, cap, hsp⟩ := K0.out.now.1.own.ns.shape
  subst hsp
  go_wp2_with fail
  clear hW0
  have KD := Lib.hid (K0.out.later (Fp.refl Non W0).drew)
  have HS0 := Lib.hid (And.intro KD.out.now.1.c0 (boxP7 KD.out.now.2.1.op).2.2.1)
  refine wp_region_held_drew (S := (fun w' => w'.cell? ⟨b, 0, none⟩ = some (.slice ao s.nodes.length cap) ∧ w'.cell? ⟨w.heap.size, 2, none⟩ = some (.string (B p)))) (by kernel_rfl) ?_ (fun hH => ?_)
  ·exact HS0.out
  clear o0 o1 o2 o3 o4 o5 o6
  generalize W0.drew = Wd at *
  refine tk 0 hH ?_
  refine tk 1 hH ?_
  refine tk 2 hH ?_
  refine tk 3 hH ?_
  refine tk 4 hH ?_
  refine tk 5 hH ?_
  refine rY 6 fun K hK => ?_
  go_simp
  go_at_call 132
  refine (liesIn_c p _).mono ?_
  rintro e w1 ⟨rfl, hw1⟩
  obtain rfl := hw1.symm
  have K1 := Lib.hid (KD.out.later (fp_alloc Wd (.cells #[.string (B p)] 9)))
  have hpd := liesIn_pd p Wd Non (fun _ h => h.elim)
  have hcf := ContainsFunc_c _ _ s.nodes _ _ K1.out.now.1.own.ns HSP.out hpd (by have := HX.out.2.2.2.1; omega)
  rw [HAny.out] at hcf
  have HCF := Lib.hid hcf
  have HS1 := Lib.hid (And.intro K1.out.now.1.c0 (boxP7 K1.out.now.2.1.op).2.2.1)
  clear hpd hcf hw1
  go_wp2_with fail
  refine hK.out _ _ HS1.out (fun hH => ?_)
  clear hK K
  try simp only [zz]
  refine rY 7 fun K hK => ?_
  go_simp
  go_at_call 131
  refine HCF.out.mono ?_
  rintro e w2 ⟨rfl, hf⟩
  have K2 := Lib.hid (K1.out.later hf)
  have HS2 := Lib.hid (And.intro K2.out.now.1.c0 (boxP7 K2.out.now.2.1.op).2.2.1)
  clear hf
  go_wp2_with fail
  refine hK.out _ _ HS2.out (fun hH => ?_)
  clear hK K
  try simp only [zz]
  refine dn ?_
  go_wp2_with fail
  refine (refusedP_c 64 _).mono ?_
  rintro e w9 ⟨rfl, hf⟩
  have K9 := Lib.hid (K2.out.later hf)
  clear hf
  unfold badV
  have hbr := (Chd.still HX.out.1 K9.out.now.1 K9.out.now.2.1 K9.out.now.2.2.1).bp
  obtain ⟨r0, r1, r2, r3, r4⟩ := hbr.r
  have z0 := hbr.fz 0; have z1 := hbr.fz 1; have z2 := hbr.fz 2; have z3 := hbr.fz 3; have z4 := hbr.fz 4
  have HP := Lib.hid ((Chd.still HX.out.1 K9.out.now.1 K9.out.now.2.1 K9.out.now.2.2.1).done (.bad 64) (.slice none 0 0) (Own.nil _ _) (fun e => by simp [Value.ownBlock] at e) (64) (⟨#[]⟩) (⟨#[]⟩) (0) rfl rfl rfl rfl)
  have HW9 := Lib.hid (set5 hbr.res (.int .i64 64) (.string ⟨#[]⟩) (.string ⟨#[]⟩) (.int .i64 0) (.slice none 0 0))
  clear hbr
  go_wp2
  have hw9 := HW9.out
  have hp9 := HP.out
  generalize (((((World.setCell _ _ _).setCell _ _).setCell _ _).setCell _ _).setCell _ _) = wz at *
  obtain ⟨s0, s1, s2, s3, s4⟩ := b5 hw9
  exact bodyPost_ret (v := .agg #[.int .i64 64, .string ⟨#[]⟩, .string ⟨#[]⟩, .int .i64 0, .slice none 0 0]) (by simp [results, Tryz.results90, go_sem, s0, s1, s2, s3, s4]) rfl hp9
 | false => ?_
 have e : doP s ⟨4, d, p, da, v, o, t⟩ = (⟨s.nodes, setT s.turns p 0⟩, okR) := by
  have : kids s.nodes p = [] := hka.1 rfl
  unfold doP; simp [this]
 rw [e]
 clear hf0 h ht hst hm hn hnt hp e hc hka
 rw [hpt]
 clear hpt
 go_enter Tryz.func90, Tryz.ntmps90
 generalize hW0 : ((w.alloc (.cells #[.int .i64 4, .string (B d), .string (B p), .string (B da), .int .i64 v, .int .i64 o, .bool t] TP)).alloc (.cells #[.int .i64 0, .string ⟨#[]⟩, .string ⟨#[]⟩, .int .i64 0, .slice none 0 0] TR)) = W0 at *
 obtain ⟨o0, o1, o2, o3, o4, o5, o6⟩ := boxP7 K0.out.now.2.1.op
 obtain ⟨ao, cap, hsp⟩ := K0.out.now.1.own.ns.shape
 subst hsp
 go_wp2_with fail
 clear hW0
 have KD := Lib.hid (K0.out.later (Fp.refl Non W0).drew)
 have HS0 := Lib.hid (And.intro KD.out.now.1.c0 (boxP7 KD.out.now.2.1.op).2.2.1)
 refine wp_region_held_drew (S := (fun w' => w'.cell? ⟨b, 0, none⟩ = some (.slice ao s.nodes.length cap) ∧ w'.cell? ⟨w.heap.size, 2, none⟩ = some (.string (B p)))) (by kernel_rfl) ?_ (fun hH => ?_)
 ·exact HS0.out
 clear o0 o1 o2 o3 o4 o5 o6
 generalize W0.drew = Wd at *
 refine tk 0 hH ?_
 refine tk 1 hH ?_
 refine tk 2 hH ?_
 refine tk 3 hH ?_
 refine tk 4 hH ?_
 refine tk 5 hH ?_
 refine rY 6 fun K hK => ?_
 go_simp
 go_at_call 132
 refine (liesIn_c p _).mono ?_
 rintro e w1 ⟨rfl, hw1⟩
 obtain rfl := hw1.symm
 have K1 := Lib.hid (KD.out.later (fp_alloc Wd (.cells #[.string (B p)] 9)))
 have hpd := liesIn_pd p Wd Non (fun _ h => h.elim)
 have hcf := ContainsFunc_c _ _ s.nodes _ _ K1.out.now.1.own.ns HSP.out hpd (by have := HX.out.2.2.2.1; omega)
 rw [HAny.out] at hcf
 have HCF := Lib.hid hcf
 have HS1 := Lib.hid (And.intro K1.out.now.1.c0 (boxP7 K1.out.now.2.1.op).2.2.1)
 clear hpd hcf hw1
 go_wp2_with fail
 refine hK.out _ _ HS1.out (fun hH => ?_)
 clear hK K
 try simp only [zz]
 refine rY 7 fun K hK => ?_
 go_simp
 go_at_call 131
 refine HCF.out.mono ?_
 rintro e w2 ⟨rfl, hf⟩
 have K2 := Lib.hid (K1.out.later hf)
 have HS2 := Lib.hid (And.intro K2.out.now.1.c0 (boxP7 K2.out.now.2.1.op).2.2.1)
 clear hf
 go_wp2_with fail
 refine hK.out _ _ HS2.out (fun hH => ?_)
 clear hK K
 try simp only [zz]
 refine dn ?_
 obtain ⟨o0, o1, o2, o3, o4, o5, o6⟩ := boxP7 K2.out.now.2.1.op
 have hse := setTurn_c K2.out.now.1 p 0 HX.out.2.1.tasc HX.out.2.2.2.2
 have HSE := Lib.hid hse
 clear hse
 go_wp2_with fail
 clear o0 o1 o2 o3 o4 o5 o6
 refine HSE.out.mono ?_
 rintro e w3 ⟨rfl, hR⟩
 obtain ⟨vt', hsw, hnw⟩ := hR.ex
 have HC := Lib.hid (Chd.of HX.out.1 K2.out.now.2.1 hsw K2.out.now.2.2.1 (hR.fp.mono (fun k hk => hk.imp id .inr)) (fun k hk => .inl hk) hnw)
 clear hR hsw hnw
 have hbr := (HC.out).bp
 obtain ⟨r0, r1, r2, r3, r4⟩ := hbr.r
 have z0 := hbr.fz 0; have z1 := hbr.fz 1; have z2 := hbr.fz 2; have z3 := hbr.fz 3; have z4 := hbr.fz 4
 have HP := Lib.hid ((HC.out).done okR (.slice none 0 0) (Own.nil _ _) (fun e => by simp [Value.ownBlock] at e) (0) (⟨#[]⟩) (⟨#[]⟩) (0) rfl rfl rfl rfl)
 have HW9 := Lib.hid (set5 hbr.res (.int .i64 0) (.string ⟨#[]⟩) (.string ⟨#[]⟩) (.int .i64 0) (.slice none 0 0))
 clear hbr
 go_wp2
 have hw9 := HW9.out
 have hp9 := HP.out
 generalize (((((World.setCell _ _ _).setCell _ _).setCell _ _).setCell _ _).setCell _ _) = wz at *
 obtain ⟨s0, s1, s2, s3, s4⟩ := b5 hw9
 exact bodyPost_ret (v := .agg #[.int .i64 0, .string ⟨#[]⟩, .string ⟨#[]⟩, .int .i64 0, .slice none 0 0]) (by simp [results, Tryz.results90, go_sem, s0, s1, s2, s3, s4]) rfl hp9
set_option maxHeartbeats 16000000 in
theorem put_e {lo b : Nat} {vn vt : Value} {s : St} {w : World} (h : Sw lo b vn vt s w) (x : Pt) (hst : StR s) (hm : mayP x = true) (hn : s.nodes.length ≤ 3900) (hnt : s.turns.length ≤ 3900) (ht : Tab w) (hk : x.kind = 2) :
  Calls Tryz.prog 88 #[.pointer (some ⟨b, 0, none⟩), ptV x] w (PmR lo b vn vt (doP s x).1 (doP s x).2 w) := by
 have hp : x.path.length ≤ 100 := split_len ((mayP_iff x).1 hm).2.1
 obtain ⟨k, d, p, da, v, o, t⟩ := x
 obtain rfl : k = 2 := hk
 simp only at hp
 have hf0 : Fp Non w ((w.alloc (.cells #[.int .i64 2, .string (B d), .string (B p), .string (B da), .int .i64 v, .int .i64 o, .bool t] TP)).alloc (.cells #[.int .i64 0, .string ⟨#[]⟩, .string ⟨#[]⟩, .int .i64 0, .slice none 0 0] TR)) := ((Fp.refl Non w).alloc _).alloc _
 have K0 := Lib.hid (Kp.and (Kp.sw (h.non hf0)) (Kp.and (Kp.bp (Bp.made w 2 d p da v o t)) (Kp.and (Kp.fp hf0) (Kp.tab (ht.non hf0)))))
 have HX := Lib.hid (And.intro h (And.intro hst (And.intro hm (And.intro hn hnt))))
 have hpt : ptV ⟨2, d, p, da, v, o, t⟩ = .agg #[.int .i64 2, .string (B d), .string (B p), .string (B da), .int .i64 v, .int .i64 o, .bool t] := rfl
 have HNP := Lib.hid (fun W (hW : Sw lo b vn vt s W) (hT : Tab W) => newPath_c hW ⟨2, d, p, da, v, o, t⟩ hst hm (by omega) hT)
 have HST := Lib.hid hst
 obtain ⟨np, hnp⟩ : ∃ np, newPath s ⟨2, d, p, da, v, o, t⟩ = np := ⟨_, rfl⟩
 rw [hnp, hpt] at HNP
 cases np with
 | none =>
  have e : doP s ⟨2, d, p, da, v, o, t⟩ = (s, .bad 66) := by unfold doP putS; rw [if_pos rfl, hnp]
  rw [e]
  simp only [Option.getD_none, Option.isSome_none] at HNP
  clear hf0 h ht hst hm hn hnt hp e hnp
  rw [hpt]
  clear hpt
  go_enter Tryz.func88, Tryz.ntmps88
  generalize hW0 : ((w.alloc (.cells #[.int .i64 2, .string (B d), .string (B p), .string (B da), .int .i64 v, .int .i64 o, .bool t] TP)).alloc (.cells #[.int .i64 0, .string ⟨#[]⟩, .string ⟨#[]⟩, .int .i64 0, .slice none 0 0] TR)) = W0 at *
  obtain ⟨o0, o1, o2, o3, o4, o5, o6⟩ := boxP7 K0.out.now.2.1.op
  go_wp2_with fail
  clear hW0
  refine (HNP.out _ K0.out.now.1 K0.out.now.2.2.2).mono ?_
  rintro e w1 ⟨rfl, hf1⟩
  have K1 := Lib.hid (K0.out.later hf1)
  clear hf1
  clear o0 o1 o2 o3 o4 o5 o6
  go_wp2_with fail
  refine (refusedP_c 66 _).mono ?_
  rintro e w9 ⟨rfl, hf⟩
  have K9 := Lib.hid (K1.out.later hf)
  clear hf
  unfold badV
  have hbr := (Chd.still HX.out.1 K9.out.now.1 K9.out.now.2.1 K9.out.now.2.2.1).bp
  obtain ⟨r0, r1, r2, r3, r4⟩ := hbr.r
  have z0 := hbr.fz 0; have z1 := hbr.fz 1; have z2 := hbr.fz 2; have z3 := hbr.fz 3; have z4 := hbr.fz 4
  have HP := Lib.hid ((Chd.still HX.out.1 K9.out.now.1 K9.out.now.2.1 K9.out.now.2.2.1).done (.bad 66) (.slice none 0 0) (Own.nil _ _) (fun e => by simp [Value.ownBlock] at e) (66) (⟨#[]⟩) (⟨#[]⟩) (0) rfl rfl rfl rfl)
  have HW9 := Lib.hid (set5 hbr.res (.int .i64 66) (.string ⟨#[]⟩) (.string ⟨#[]⟩) (.int .i64 0) (.slice none 0 0))
  clear hbr
  go_wp2
  have hw9 := HW9.out
  have hp9 := HP.out
  generalize (((((World.setCell _ _ _).setCell _ _).setCell _ _).setCell _ _).setCell _ _) = wz at *
  obtain ⟨s0, s1, s2, s3, s4⟩ := b5 hw9
  exact bodyPost_ret (v := .agg #[.int .i64 66, .string ⟨#[]⟩, .string ⟨#[]⟩, .int .i64 0, .slice none 0 0]) (by simp [results, Tryz.results88, go_sem, s0, s1, s2, s3, s4]) rfl hp9
 | some q => ?_
 obtain ⟨kq, hkq⟩ : ∃ kq, kq = place s.nodes q := ⟨_, rfl⟩
 have HPL := Lib.hid (fun W (hW : Sw lo b vn vt s W) => placeP_c vn s.nodes q W hW.own.ns hst.asc (by omega))
 rw [← hkq] at HPL
 simp only [Option.getD_some, Option.isSome_some] at HNP
 cases hf : find s.nodes q with
 | some y =>
  have e : doP s ⟨2, d, p, da, v, o, t⟩ = (s, .bad 61) := by unfold doP putS; rw [if_pos rfl, hnp]; simp [hf]
  rw [e]
  rw [hf] at HPL
  simp only [Option.isSome_some] at HPL
  clear hf0 h ht hst hm hn hnt hp e hnp hf hkq
  rw [hpt]
  clear hpt
  go_enter Tryz.func88, Tryz.ntmps88
  generalize hW0 : ((w.alloc (.cells #[.int .i64 2, .string (B d), .string (B p), .string (B da), .int .i64 v, .int .i64 o, .bool t] TP)).alloc (.cells #[.int .i64 0, .string ⟨#[]⟩, .string ⟨#[]⟩, .int .i64 0, .slice none 0 0] TR)) = W0 at *
  obtain ⟨o0, o1, o2, o3, o4, o5, o6⟩ := boxP7 K0.out.now.2.1.op
  go_wp2_with fail
  clear hW0
  refine (HNP.out _ K0.out.now.1 K0.out.now.2.2.2).mono ?_
  rintro e w1 ⟨rfl, hf1⟩
  have K1 := Lib.hid (K0.out.later hf1)
  clear hf1
  clear o0 o1 o2 o3 o4 o5 o6
  have cb1 := K1.out.now.1.c0
  obtain ⟨ao, cap, hsp⟩ := K1.out.now.1.own.ns.shape
  subst hsp
  go_wp2_with fail
  refine (HPL.out _ K1.out.now.1).mono ?_
  rintro e w2 ⟨rfl, hf2⟩
  have K2 := Lib.hid (K1.out.later hf2)
  clear hf2 cb1 HPL
  go_wp2_with fail
  refine (refusedP_c 61 _).mono ?_
  rintro e w9 ⟨rfl, hf⟩
  have K9 := Lib.hid (K2.out.later hf)
  clear hf
  unfold badV
  have hbr := (Chd.still HX.out.1 K9.out.now.1 K9.out.now.2.1 K9.out.now.2.2.1).bp
  obtain ⟨r0, r1, r2, r3, r4⟩ := hbr.r
  have z0 := hbr.fz 0; have z1 := hbr.fz 1; have z2 := hbr.fz 2; have z3 := hbr.fz 3; have z4 := hbr.fz 4
  have HP := Lib.hid ((Chd.still HX.out.1 K9.out.now.1 K9.out.now.2.1 K9.out.now.2.2.1).done (.bad 61) (.slice none 0 0) (Own.nil _ _) (fun e => by simp [Value.ownBlock] at e) (61) (⟨#[]⟩) (⟨#[]⟩) (0) rfl rfl rfl rfl)
  have HW9 := Lib.hid (set5 hbr.res (.int .i64 61) (.string ⟨#[]⟩) (.string ⟨#[]⟩) (.int .i64 0) (.slice none 0 0))
  clear hbr
  go_wp2
  have hw9 := HW9.out
  have hp9 := HP.out
  generalize (((((World.setCell _ _ _).setCell _ _).setCell _ _).setCell _ _).setCell _ _) = wz at *
  obtain ⟨s0, s1, s2, s3, s4⟩ := b5 hw9
  exact bodyPost_ret (v := .agg #[.int .i64 61, .string ⟨#[]⟩, .string ⟨#[]⟩, .int .i64 0, .slice none 0 0]) (by simp [results, Tryz.results88, go_sem, s0, s1, s2, s3, s4]) rfl hp9
 | none => ?_
 rw [hf] at HPL
 simp only [Option.isSome_none] at HPL
 have HKQ := Lib.hid (show kq ≤ s.nodes.length by rw [hkq]; exact place_le _ _)
 cases t with
 | false =>
  have e : doP s ⟨2, d, p, da, v, o, false⟩ = (⟨ins s.nodes kq ⟨q, da, 0, 0, o⟩, s.turns⟩, ⟨0, q, [], 0, []⟩) := by unfold doP putS; rw [if_pos rfl, hnp]; simp [hf, hkq]
  rw [e]
  clear hf0 h ht hst hm hn hnt hp e hnp hf hkq
  rw [hpt]
  clear hpt
  go_enter Tryz.func88, Tryz.ntmps88
  generalize hW0 : ((w.alloc (.cells #[.int .i64 2, .string (B d), .string (B p), .string (B da), .int .i64 v, .int .i64 o, .bool false] TP)).alloc (.cells #[.int .i64 0, .string ⟨#[]⟩, .string ⟨#[]⟩, .int .i64 0, .slice none 0 0] TR)) = W0 at *
  obtain ⟨o0, o1, o2, o3, o4, o5, o6⟩ := boxP7 K0.out.now.2.1.op
  go_wp2_with fail
  clear hW0
  refine (HNP.out _ K0.out.now.1 K0.out.now.2.2.2).mono ?_
  rintro e w1 ⟨rfl, hf1⟩
  have K1 := Lib.hid (K0.out.later hf1)
  clear hf1
  clear o0 o1 o2 o3 o4 o5 o6
  have cb1 := K1.out.now.1.c0
  obtain ⟨ao, cap, hsp⟩ := K1.out.now.1.own.ns.shape
  subst hsp
  go_wp2_with fail
  refine (HPL.out _ K1.out.now.1).mono ?_
  rintro e w2 ⟨rfl, hf2⟩
  have K2 := Lib.hid (K1.out.later hf2)
  clear hf2 cb1 HPL
  go_wp2_with fail
  have KD := Lib.hid (K2.out.later (Fp.refl Non w2).drew)
  have HSD := Lib.hid (And.intro (boxP7 KD.out.now.2.1.op).2.2.2.1 (boxP7 KD.out.now.2.1.op).2.2.2.2.2.1)
  have cbd := KD.out.now.1.c0
  refine wp_region_held_drew (S := (fun w' => w'.cell? ⟨w.heap.size, 3, none⟩ = some (.string (B da)) ∧ w'.cell? ⟨w.heap.size, 5, none⟩ = some (.int .i64 o))) (by kernel_rfl) ?_ (fun hH => ?_)
  ·exact HSD.out
  generalize w2.drew = wd at *
  refine tk 0 hH ?_
  refine tk 1 hH ?_
  refine tk 2 hH ?_
  refine tk 3 hH ?_
  refine tk 5 hH ?_
  refine tk 6 hH ?_
  refine tk 7 hH ?_
  refine tk 8 hH ?_
  refine tk 9 hH ?_
  refine tk 10 hH ?_
  refine tk 11 hH ?_
  have hfa := fp_alloc wd (.cells #[.string (B q), .string (B da), .int .i64 0, .int .i64 0, .int .i64 o] TN)
  have hXa : (wd.alloc (.cells #[.string (B q), .string (B da), .int .i64 0, .int .i64 0, .int .i64 o] TN)).heap[wd.heap.size]? = some (.cells (ndC ⟨q, da, 0, 0, o⟩).toArray TN (0, 0)) := heap_alloc_new wd _
  have KA := Lib.hid (KD.out.later hfa)
  have HSA := Lib.hid (And.intro (boxP7 KA.out.now.2.1.op).2.2.2.1 (boxP7 KA.out.now.2.1.op).2.2.2.2.2.1)
  have hin := Insert_own (x := ⟨q, da, 0, 0, o⟩) KA.out.now.1.own kq HKQ.out hXa (fun e => by have := KD.out.now.1.ltN _ e; omega) (by have := HX.out.2.2.2.1; omega) (by have h1 := HX.out.1.low; have h2 := HX.out.1.lt; have h3 := KA.out.now.2.2.1.size; omega)
  have HIN := Lib.hid hin
  have cba := KA.out.now.1.c0
  clear hfa hXa hin
  refine wpAnyH_ready (rs := [4, 12]) (by kernel_rfl) (by simp) ?_
  refine AllReadyH.cons (o := ?_) (by simp only [zA, zB, zC] <;> exact rfl) (fun K hK => ?_) (AllReadyH.cons (o := ?_) (by simp only [zA, zB, zC] <;> exact rfl) (fun K hK => ?_) AllReadyH.nil)
  ·go_simp
   refine hK.out _ _ HSD.out (fun hH => ?_)
   clear hK K
   try simp only [zz]
   refine rY 12 fun K hK => ?_
   go_simp
   refine hK.out _ _ HSA.out (fun hH => ?_)
   clear hK K cbd cba
   try simp only [zz]
   generalize (wd.alloc (.cells #[.string (B q), .string (B da), .int .i64 0, .int .i64 0, .int .i64 o] TN)) = wa at *
   refine rY 13 fun K hK => ?_
   go_simp
   go_at_call 125
   refine HIN.out.mono ?_
   rintro e w7 ⟨v7, rfl, hc⟩
   have hp7 := KA.out.now.1.putN (Fp.refl Non wa) hc
   have hnB : ∀ k, k = w.heap.size → ¬ (Value.slice ao s.nodes.length cap).ownBlock = some k := fun k hk e => by have := HX.out.1.ltN _ e; omega
   have hbB : b ≠ w.heap.size := fun e => by have := HX.out.1.lt; omega
   have hS7 := And.intro (hc.fp.cell HSA.out.1 (fun e => hnB _ rfl e)) (hc.fp.cell HSA.out.2 (fun e => hnB _ rfl e))
   have HS7 := Lib.hid hS7
   have hfb : Fp (fun k => k = b) w7 (w7.setCell ⟨b, 0, none⟩ v7) := (Fp.refl (fun k => k = b) w7).setCell (p := ⟨b, 0, none⟩) (.inl rfl) v7
   have HS8 := Lib.hid (And.intro (hfb.cell hS7.1 (fun e => hbB e.symm)) (hfb.cell hS7.2 (fun e => hbB e.symm)))
   have cb7 := hc.fp.cell KA.out.now.1.c0 (fun e => KA.out.now.1.neN e)
   have zb7 : w7.frozen? ⟨b, 0, none⟩ = false := by have := hc.fp.heap KA.out.now.1.blk (fun e => KA.out.now.1.neN e); simp [World.frozen?, this]
   have HC7 := Lib.hid (Chd.of HX.out.1 KA.out.now.2.1 hp7.1 KA.out.now.2.2.1 (hp7.2.1.mono (fun k hk => hk.imp id .inl)) hp7.2.2 (fun k hk => .inl hk))
   have HP7 := Lib.hid hp7
   obtain ⟨a7, c7, rfl⟩ := hc.own.ns.shape
   obtain ⟨n7, hn7⟩ : ∃ n7, n7 = (ins s.nodes kq ⟨q, da, 0, 0, o⟩).length := ⟨_, rfl⟩
   rw [← hn7] at HS8 HC7 HP7 ⊢
   clear hc hp7 hnB hbB hS7 hfb hn7 HIN
   go_wp2_with fail
   refine hK.out _ _ HS7.out (fun hH => ?_)
   clear hK K
   try simp only [zz]
   refine tk 14 hH ?_
   refine tk 15 hH ?_
   refine rY 16 fun K hK => ?_
   go_simp
   refine hK.out _ _ HS8.out (fun hH => ?_)
   clear hK K hH cb7 zb7
   try simp only [zz]
   refine dn ?_
   generalize (w7.setCell ⟨b, 0, none⟩ _) = W8 at *
   obtain ⟨o0, o1, o2, o3, o4, o5, o6⟩ := boxP7 HC7.out.bp.op
   have hbr := (HC7.out).bp
   obtain ⟨r0, r1, r2, r3, r4⟩ := hbr.r
   have z0 := hbr.fz 0; have z1 := hbr.fz 1; have z2 := hbr.fz 2; have z3 := hbr.fz 3; have z4 := hbr.fz 4
   have HP := Lib.hid ((HC7.out).done ⟨0, q, [], 0, []⟩ (.slice none 0 0) (Own.nil _ _) (fun e => by simp [Value.ownBlock] at e) (0) ((B q)) (⟨#[]⟩) (0) rfl rfl rfl rfl)
   have HW9 := Lib.hid (set5 hbr.res (.int .i64 0) (.string (B q)) (.string ⟨#[]⟩) (.int .i64 0) (.slice none 0 0))
   clear hbr
   go_wp2
   have hw9 := HW9.out
   have hp9 := HP.out
   generalize (((((World.setCell _ _ _).setCell _ _).setCell _ _).setCell _ _).setCell _ _) = wz at *
   obtain ⟨s0, s1, s2, s3, s4⟩ := b5 hw9
   exact bodyPost_ret (v := .agg #[.int .i64 0, .string (B q), .string ⟨#[]⟩, .int .i64 0, .slice none 0 0]) (by simp [results, Tryz.results88, go_sem, s0, s1, s2, s3, s4]) rfl hp9
  go_simp
  refine hK.out _ _ HSA.out (fun hH => ?_)
  clear hK K cbd
  try simp only [zz]
  generalize (wd.alloc (.cells #[.string (B q), .string (B da), .int .i64 0, .int .i64 0, .int .i64 o] TN)) = wa at *
  refine rY 4 fun K hK => ?_
  go_simp
  refine hK.out _ _ HSA.out (fun hH => ?_)
  clear hK K cba
  try simp only [zz]
  refine rY 13 fun K hK => ?_
  go_simp
  go_at_call 125
  refine HIN.out.mono ?_
  rintro e w7 ⟨v7, rfl, hc⟩
  have hp7 := KA.out.now.1.putN (Fp.refl Non wa) hc
  have hnB : ∀ k, k = w.heap.size → ¬ (Value.slice ao s.nodes.length cap).ownBlock = some k := fun k hk e => by have := HX.out.1.ltN _ e; omega
  have hbB : b ≠ w.heap.size := fun e => by have := HX.out.1.lt; omega
  have hS7 := And.intro (hc.fp.cell HSA.out.1 (fun e => hnB _ rfl e)) (hc.fp.cell HSA.out.2 (fun e => hnB _ rfl e))
  have HS7 := Lib.hid hS7
  have hfb : Fp (fun k => k = b) w7 (w7.setCell ⟨b, 0, none⟩ v7) := (Fp.refl (fun k => k = b) w7).setCell (p := ⟨b, 0, none⟩) (.inl rfl) v7
  have HS8 := Lib.hid (And.intro (hfb.cell hS7.1 (fun e => hbB e.symm)) (hfb.cell hS7.2 (fun e => hbB e.symm)))
  have cb7 := hc.fp.cell KA.out.now.1.c0 (fun e => KA.out.now.1.neN e)
  have zb7 : w7.frozen? ⟨b, 0, none⟩ = false := by have := hc.fp.heap KA.out.now.1.blk (fun e => KA.out.now.1.neN e); simp [World.frozen?, this]
  have HC7 := Lib.hid (Chd.of HX.out.1 KA.out.now.2.1 hp7.1 KA.out.now.2.2.1 (hp7.2.1.mono (fun k hk => hk.imp id .inl)) hp7.2.2 (fun k hk => .inl hk))
  have HP7 := Lib.hid hp7
  obtain ⟨a7, c7, rfl⟩ := hc.own.ns.shape
  obtain ⟨n7, hn7⟩ : ∃ n7, n7 = (ins s.nodes kq ⟨q, da, 0, 0, o⟩).length := ⟨_, rfl⟩
  rw [← hn7] at HS8 HC7 HP7 ⊢
  clear hc hp7 hnB hbB hS7 hfb hn7 HIN
  go_wp2_with fail
  refine hK.out _ _ HS7.out (fun hH => ?_)
  clear hK K
  try simp only [zz]
  refine tk 14 hH ?_
  refine tk 15 hH ?_
  refine rY 16 fun K hK => ?_
  go_simp
  refine hK.out _ _ HS8.out (fun hH => ?_)
  clear hK K hH cb7 zb7
  try simp only [zz]
  refine dn ?_
  generalize (w7.setCell ⟨b, 0, none⟩ _) = W8 at *
  obtain ⟨o0, o1, o2, o3, o4, o5, o6⟩ := boxP7 HC7.out.bp.op
  have hbr := (HC7.out).bp
  obtain ⟨r0, r1, r2, r3, r4⟩ := hbr.r
  have z0 := hbr.fz 0; have z1 := hbr.fz 1; have z2 := hbr.fz 2; have z3 := hbr.fz 3; have z4 := hbr.fz 4
  have HP := Lib.hid ((HC7.out).done ⟨0, q, [], 0, []⟩ (.slice none 0 0) (Own.nil _ _) (fun e => by simp [Value.ownBlock] at e) (0) ((B q)) (⟨#[]⟩) (0) rfl rfl rfl rfl)
  have HW9 := Lib.hid (set5 hbr.res (.int .i64 0) (.string (B q)) (.string ⟨#[]⟩) (.int .i64 0) (.slice none 0 0))
  clear hbr
  go_wp2
  have hw9 := HW9.out
  have hp9 := HP.out
  generalize (((((World.setCell _ _ _).setCell _ _).setCell _ _).setCell _ _).setCell _ _) = wz at *
  obtain ⟨s0, s1, s2, s3, s4⟩ := b5 hw9
  exact bodyPost_ret (v := .agg #[.int .i64 0, .string (B q), .string ⟨#[]⟩, .int .i64 0, .slice none 0 0]) (by simp [results, Tryz.results88, go_sem, s0, s1, s2, s3, s4]) rfl hp9
 | true => ?_
 have e : doP s ⟨2, d, p, da, v, o, true⟩ = (⟨ins s.nodes kq ⟨q, da, 0, 0, o⟩, setT s.turns d (turnOf s.turns d + 1)⟩, ⟨0, q, [], 0, []⟩) := by unfold doP putS; rw [if_pos rfl, hnp]; simp [hf, hkq]
 rw [e]
 have htb := turnOf_bounds hst.tfit d
 have hTU := fun (W : World) (vn' : Value) (l' : List Nd) (hW : Sw lo b vn' vt ⟨l', s.turns⟩ W) => turn_c hW d hst.tasc (by have := hnt; show s.turns.length ≤ 1000000; omega)
 obtain ⟨tt, htt⟩ : ∃ tt, tt = turnOf s.turns d := ⟨_, rfl⟩
 simp only [← htt] at hTU htb ⊢
 have HTU := Lib.hid hTU
 have hw64 : IntKind.i64.wrap (tt + 1) = tt + 1 := wrap_small (by omega) (by omega)
 have HW64 := Lib.hid hw64
 clear hw64 hTU htt htb
 clear hf0 h ht hst hm hn hnt hp e hnp hf hkq
 rw [hpt]
 clear hpt
 go_enter Tryz.func88, Tryz.ntmps88
 generalize hW0 : ((w.alloc (.cells #[.int .i64 2, .string (B d), .string (B p), .string (B da), .int .i64 v, .int .i64 o, .bool true] TP)).alloc (.cells #[.int .i64 0, .string ⟨#[]⟩, .string ⟨#[]⟩, .int .i64 0, .slice none 0 0] TR)) = W0 at *
 obtain ⟨o0, o1, o2, o3, o4, o5, o6⟩ := boxP7 K0.out.now.2.1.op
 go_wp2_with fail
 clear hW0
 refine (HNP.out _ K0.out.now.1 K0.out.now.2.2.2).mono ?_
 rintro e w1 ⟨rfl, hf1⟩
 have K1 := Lib.hid (K0.out.later hf1)
 clear hf1
 clear o0 o1 o2 o3 o4 o5 o6
 have cb1 := K1.out.now.1.c0
 obtain ⟨ao, cap, hsp⟩ := K1.out.now.1.own.ns.shape
 subst hsp
 go_wp2_with fail
 refine (HPL.out _ K1.out.now.1).mono ?_
 rintro e w2 ⟨rfl, hf2⟩
 have K2 := Lib.hid (K1.out.later hf2)
 clear hf2 cb1 HPL
 go_wp2_with fail
 have KD := Lib.hid (K2.out.later (Fp.refl Non w2).drew)
 have HSD := Lib.hid (And.intro (boxP7 KD.out.now.2.1.op).2.2.2.1 (boxP7 KD.out.now.2.1.op).2.2.2.2.2.1)
 have cbd := KD.out.now.1.c0
 refine wp_region_held_drew (S := (fun w' => w'.cell? ⟨w.heap.size, 3, none⟩ = some (.string (B da)) ∧ w'.cell? ⟨w.heap.size, 5, none⟩ = some (.int .i64 o))) (by kernel_rfl) ?_ (fun hH => ?_)
 ·exact HSD.out
 generalize w2.drew = wd at *
 refine tk 0 hH ?_
 refine tk 1 hH ?_
 refine tk 2 hH ?_
 refine tk 3 hH ?_
 refine tk 5 hH ?_
 refine tk 6 hH ?_
 refine tk 7 hH ?_
 refine tk 8 hH ?_
 refine tk 9 hH ?_
 refine tk 10 hH ?_
 refine tk 11 hH ?_
 have hfa := fp_alloc wd (.cells #[.string (B q), .string (B da), .int .i64 0, .int .i64 0, .int .i64 o] TN)
 have hXa : (wd.alloc (.cells #[.string (B q), .string (B da), .int .i64 0, .int .i64 0, .int .i64 o] TN)).heap[wd.heap.size]? = some (.cells (ndC ⟨q, da, 0, 0, o⟩).toArray TN (0, 0)) := heap_alloc_new wd _
 have KA := Lib.hid (KD.out.later hfa)
 have HSA := Lib.hid (And.intro (boxP7 KA.out.now.2.1.op).2.2.2.1 (boxP7 KA.out.now.2.1.op).2.2.2.2.2.1)
 have hin := Insert_own (x := ⟨q, da, 0, 0, o⟩) KA.out.now.1.own kq HKQ.out hXa (fun e => by have := KD.out.now.1.ltN _ e; omega) (by have := HX.out.2.2.2.1; omega) (by have h1 := HX.out.1.low; have h2 := HX.out.1.lt; have h3 := KA.out.now.2.2.1.size; omega)
 have HIN := Lib.hid hin
 have cba := KA.out.now.1.c0
 clear hfa hXa hin
 refine wpAnyH_ready (rs := [4, 12]) (by kernel_rfl) (by simp) ?_
 refine AllReadyH.cons (o := ?_) (by simp only [zA, zB, zC] <;> exact rfl) (fun K hK => ?_) (AllReadyH.cons (o := ?_) (by simp only [zA, zB, zC] <;> exact rfl) (fun K hK => ?_) AllReadyH.nil)
 ·go_simp
  refine hK.out _ _ HSD.out (fun hH => ?_)
  clear hK K
  try simp only [zz]
  refine rY 12 fun K hK => ?_
  go_simp
  refine hK.out _ _ HSA.out (fun hH => ?_)
  clear hK K cbd cba
  try simp only [zz]
  generalize (wd.alloc (.cells #[.string (B q), .string (B da), .int .i64 0, .int .i64 0, .int .i64 o] TN)) = wa at *
  refine rY 13 fun K hK => ?_
  go_simp
  go_at_call 125
  refine HIN.out.mono ?_
  rintro e w7 ⟨v7, rfl, hc⟩
  have hp7 := KA.out.now.1.putN (Fp.refl Non wa) hc
  have hnB : ∀ k, k = w.heap.size → ¬ (Value.slice ao s.nodes.length cap).ownBlock = some k := fun k hk e => by have := HX.out.1.ltN _ e; omega
  have hbB : b ≠ w.heap.size := fun e => by have := HX.out.1.lt; omega
  have hS7 := And.intro (hc.fp.cell HSA.out.1 (fun e => hnB _ rfl e)) (hc.fp.cell HSA.out.2 (fun e => hnB _ rfl e))
  have HS7 := Lib.hid hS7
  have hfb : Fp (fun k => k = b) w7 (w7.setCell ⟨b, 0, none⟩ v7) := (Fp.refl (fun k => k = b) w7).setCell (p := ⟨b, 0, none⟩) (.inl rfl) v7
  have HS8 := Lib.hid (And.intro (hfb.cell hS7.1 (fun e => hbB e.symm)) (hfb.cell hS7.2 (fun e => hbB e.symm)))
  have cb7 := hc.fp.cell KA.out.now.1.c0 (fun e => KA.out.now.1.neN e)
  have zb7 : w7.frozen? ⟨b, 0, none⟩ = false := by have := hc.fp.heap KA.out.now.1.blk (fun e => KA.out.now.1.neN e); simp [World.frozen?, this]
  have HC7 := Lib.hid (Chd.of HX.out.1 KA.out.now.2.1 hp7.1 KA.out.now.2.2.1 (hp7.2.1.mono (fun k hk => hk.imp id .inl)) hp7.2.2 (fun k hk => .inl hk))
  have HP7 := Lib.hid hp7
  obtain ⟨a7, c7, rfl⟩ := hc.own.ns.shape
  obtain ⟨n7, hn7⟩ : ∃ n7, n7 = (ins s.nodes kq ⟨q, da, 0, 0, o⟩).length := ⟨_, rfl⟩
  rw [← hn7] at HS8 HC7 HP7 ⊢
  clear hc hp7 hnB hbB hS7 hfb hn7 HIN
  go_wp2_with fail
  refine hK.out _ _ HS7.out (fun hH => ?_)
  clear hK K
  try simp only [zz]
  refine tk 14 hH ?_
  refine tk 15 hH ?_
  refine rY 16 fun K hK => ?_
  go_simp
  refine hK.out _ _ HS8.out (fun hH => ?_)
  clear hK K hH cb7 zb7
  try simp only [zz]
  refine dn ?_
  generalize (w7.setCell ⟨b, 0, none⟩ _) = W8 at *
  obtain ⟨o0, o1, o2, o3, o4, o5, o6⟩ := boxP7 HC7.out.bp.op
  go_wp2_with fail
  have HS9 := Lib.hid (boxP7 ((HC7.out.bp.non (Fp.refl Non W8).drew).op)).2.1
  clear o0 o1 o2 o3 o4 o5 o6
  refine wp_region_held_drew (S := (fun w' => w'.cell? ⟨w.heap.size, 1, none⟩ = some (.string (B d)))) (by kernel_rfl) ?_ (fun hH => ?_)
  ·exact HS9.out
  refine tk 0 hH ?_
  refine tk 1 hH ?_
  refine tk 2 hH ?_
  refine tk 3 hH ?_
  refine tk 4 hH ?_
  refine tk 5 hH ?_
  refine rY 6 fun K hK => ?_
  go_simp
  go_at_call 127
  refine (HTU.out _ _ _ (HP7.out.1.non (Fp.refl Non W8).drew)).mono ?_
  rintro e w10 ⟨rfl, hf10⟩
  have hfx : Fp Non W8 w10 := ((Fp.refl Non W8).drew).then hf10
  have h10 := HP7.out.1.non hfx
  have hb10 := HC7.out.bp.non hfx
  have HS10 := Lib.hid (boxP7 hb10.op).2.1
  have hse := setTurn_c h10 d (tt + 1) HST.out.tasc (show s.turns.length ≤ 3900 from HX.out.2.2.2.2)
  have HSE := Lib.hid hse
  have HFX := Lib.hid (And.intro hfx hb10)
  have hw64 := HW64.out
  clear hf10 hfx h10 hb10 hse
  go_wp2_with fail
  refine hK.out _ _ HS10.out (fun hH => ?_)
  clear hK K
  try simp only [zz]
  refine tk 7 hH ?_
  clear hw64
  refine rY 8 fun K hK => ?_
  go_simp
  go_at_call 126
  try rw [HW64.out]
  refine HSE.out.mono ?_
  rintro e w11 ⟨rfl, hR⟩
  obtain ⟨vt', hsw, hnw⟩ := hR.ex
  have HS11 := Lib.hid (hR.fp.cell HS10.out (fun e => by
   rcases e with e | e
   ·have := HX.out.1.lt; simp only at e; omega
   have := HX.out.1.ltT _ e; simp only at this; omega))
  have HC := Lib.hid (Chd.of HX.out.1 KA.out.now.2.1 hsw KA.out.now.2.2.1 ((((HP7.out.2.1.mono (T := ownS b (.slice ao s.nodes.length cap) vt) (fun k hk => hk.imp id .inl)).same (HFX.out.1.any)).same (hR.fp.mono (fun k hk => hk.imp id .inr)))) HP7.out.2.2 (fun k hk => (hnw k hk).imp id (fun h => by have h1 := HP7.out.2.1.size; have h2 := HFX.out.1.size; omega)))
  clear hR hsw hnw
  go_wp2_with fail
  refine hK.out _ _ HS11.out (fun hH => ?_)
  clear hK K
  try simp only [zz]
  refine dn ?_
  have hbr := (HC.out).bp
  obtain ⟨r0, r1, r2, r3, r4⟩ := hbr.r
  have z0 := hbr.fz 0; have z1 := hbr.fz 1; have z2 := hbr.fz 2; have z3 := hbr.fz 3; have z4 := hbr.fz 4
  have HP := Lib.hid ((HC.out).done ⟨0, q, [], 0, []⟩ (.slice none 0 0) (Own.nil _ _) (fun e => by simp [Value.ownBlock] at e) (0) ((B q)) (⟨#[]⟩) (0) rfl rfl rfl rfl)
  have HW9 := Lib.hid (set5 hbr.res (.int .i64 0) (.string (B q)) (.string ⟨#[]⟩) (.int .i64 0) (.slice none 0 0))
  clear hbr
  go_wp2
  have hw9 := HW9.out
  have hp9 := HP.out
  generalize (((((World.setCell _ _ _).setCell _ _).setCell _ _).setCell _ _).setCell _ _) = wz at *
  obtain ⟨s0, s1, s2, s3, s4⟩ := b5 hw9
  exact bodyPost_ret (v := .agg #[.int .i64 0, .string (B q), .string ⟨#[]⟩, .int .i64 0, .slice none 0 0]) (by simp [results, Tryz.results88, go_sem, s0, s1, s2, s3, s4]) rfl hp9
 go_simp
 refine hK.out _ _ HSA.out (fun hH => ?_)
 clear hK K cbd
 try simp only [zz]
 generalize (wd.alloc (.cells #[.string (B q), .string (B da), .int .i64 0, .int .i64 0, .int .i64 o] TN)) = wa at *
 refine rY 4 fun K hK => ?_
 go_simp
 refine hK.out _ _ HSA.out (fun hH => ?_)
 clear hK K cba
 try simp only [zz]
 refine rY 13 fun K hK => ?_
 go_simp
 go_at_call 125
 refine HIN.out.mono ?_
 rintro e w7 ⟨v7, rfl, hc⟩
 have hp7 := KA.out.now.1.putN (Fp.refl Non wa) hc
 have hnB : ∀ k, k = w.heap.size → ¬ (Value.slice ao s.nodes.length cap).ownBlock = some k := fun k hk e => by have := HX.out.1.ltN _ e; omega
 have hbB : b ≠ w.heap.size := fun e => by have := HX.out.1.lt; omega
 have hS7 := And.intro (hc.fp.cell HSA.out.1 (fun e => hnB _ rfl e)) (hc.fp.cell HSA.out.2 (fun e => hnB _ rfl e))
 have HS7 := Lib.hid hS7
 have hfb : Fp (fun k => k = b) w7 (w7.setCell ⟨b, 0, none⟩ v7) := (Fp.refl (fun k => k = b) w7).setCell (p := ⟨b, 0, none⟩) (.inl rfl) v7
 have HS8 := Lib.hid (And.intro (hfb.cell hS7.1 (fun e => hbB e.symm)) (hfb.cell hS7.2 (fun e => hbB e.symm)))
 have cb7 := hc.fp.cell KA.out.now.1.c0 (fun e => KA.out.now.1.neN e)
 have zb7 : w7.frozen? ⟨b, 0, none⟩ = false := by have := hc.fp.heap KA.out.now.1.blk (fun e => KA.out.now.1.neN e); simp [World.frozen?, this]
 have HC7 := Lib.hid (Chd.of HX.out.1 KA.out.now.2.1 hp7.1 KA.out.now.2.2.1 (hp7.2.1.mono (fun k hk => hk.imp id .inl)) hp7.2.2 (fun k hk => .inl hk))
 have HP7 := Lib.hid hp7
 obtain ⟨a7, c7, rfl⟩ := hc.own.ns.shape
 obtain ⟨n7, hn7⟩ : ∃ n7, n7 = (ins s.nodes kq ⟨q, da, 0, 0, o⟩).length := ⟨_, rfl⟩
 rw [← hn7] at HS8 HC7 HP7 ⊢
 clear hc hp7 hnB hbB hS7 hfb hn7 HIN
 go_wp2_with fail
 refine hK.out _ _ HS7.out (fun hH => ?_)
 clear hK K
 try simp only [zz]
 refine tk 14 hH ?_
 refine tk 15 hH ?_
 refine rY 16 fun K hK => ?_
 go_simp
 refine hK.out _ _ HS8.out (fun hH => ?_)
 clear hK K hH cb7 zb7
 try simp only [zz]
 refine dn ?_
 generalize (w7.setCell ⟨b, 0, none⟩ _) = W8 at *
 obtain ⟨o0, o1, o2, o3, o4, o5, o6⟩ := boxP7 HC7.out.bp.op
 go_wp2_with fail
 have HS9 := Lib.hid (boxP7 ((HC7.out.bp.non (Fp.refl Non W8).drew).op)).2.1
 clear o0 o1 o2 o3 o4 o5 o6
 refine wp_region_held_drew (S := (fun w' => w'.cell? ⟨w.heap.size, 1, none⟩ = some (.string (B d)))) (by kernel_rfl) ?_ (fun hH => ?_)
 ·exact HS9.out
 refine tk 0 hH ?_
 refine tk 1 hH ?_
 refine tk 2 hH ?_
 refine tk 3 hH ?_
 refine tk 4 hH ?_
 refine tk 5 hH ?_
 refine rY 6 fun K hK => ?_
 go_simp
 go_at_call 127
 refine (HTU.out _ _ _ (HP7.out.1.non (Fp.refl Non W8).drew)).mono ?_
 rintro e w10 ⟨rfl, hf10⟩
 have hfx : Fp Non W8 w10 := ((Fp.refl Non W8).drew).then hf10
 have h10 := HP7.out.1.non hfx
 have hb10 := HC7.out.bp.non hfx
 have HS10 := Lib.hid (boxP7 hb10.op).2.1
 have hse := setTurn_c h10 d (tt + 1) HST.out.tasc (show s.turns.length ≤ 3900 from HX.out.2.2.2.2)
 have HSE := Lib.hid hse
 have HFX := Lib.hid (And.intro hfx hb10)
 have hw64 := HW64.out
 clear hf10 hfx h10 hb10 hse
 go_wp2_with fail
 refine hK.out _ _ HS10.out (fun hH => ?_)
 clear hK K
 try simp only [zz]
 refine tk 7 hH ?_
 clear hw64
 refine rY 8 fun K hK => ?_
 go_simp
 go_at_call 126
 try rw [HW64.out]
 refine HSE.out.mono ?_
 rintro e w11 ⟨rfl, hR⟩
 obtain ⟨vt', hsw, hnw⟩ := hR.ex
 have HS11 := Lib.hid (hR.fp.cell HS10.out (fun e => by
  rcases e with e | e
  ·have := HX.out.1.lt; simp only at e; omega
  have := HX.out.1.ltT _ e; simp only at this; omega))
 have HC := Lib.hid (Chd.of HX.out.1 KA.out.now.2.1 hsw KA.out.now.2.2.1 ((((HP7.out.2.1.mono (T := ownS b (.slice ao s.nodes.length cap) vt) (fun k hk => hk.imp id .inl)).same (HFX.out.1.any)).same (hR.fp.mono (fun k hk => hk.imp id .inr)))) HP7.out.2.2 (fun k hk => (hnw k hk).imp id (fun h => by have h1 := HP7.out.2.1.size; have h2 := HFX.out.1.size; omega)))
 clear hR hsw hnw
 go_wp2_with fail
 refine hK.out _ _ HS11.out (fun hH => ?_)
 clear hK K
 try simp only [zz]
 refine dn ?_
 have hbr := (HC.out).bp
 obtain ⟨r0, r1, r2, r3, r4⟩ := hbr.r
 have z0 := hbr.fz 0; have z1 := hbr.fz 1; have z2 := hbr.fz 2; have z3 := hbr.fz 3; have z4 := hbr.fz 4
 have HP := Lib.hid ((HC.out).done ⟨0, q, [], 0, []⟩ (.slice none 0 0) (Own.nil _ _) (fun e => by simp [Value.ownBlock] at e) (0) ((B q)) (⟨#[]⟩) (0) rfl rfl rfl rfl)
 have HW9 := Lib.hid (set5 hbr.res (.int .i64 0) (.string (B q)) (.string ⟨#[]⟩) (.int .i64 0) (.slice none 0 0))
 clear hbr
 go_wp2
 have hw9 := HW9.out
 have hp9 := HP.out
 generalize (((((World.setCell _ _ _).setCell _ _).setCell _ _).setCell _ _).setCell _ _) = wz at *
 obtain ⟨s0, s1, s2, s3, s4⟩ := b5 hw9
 exact bodyPost_ret (v := .agg #[.int .i64 0, .string (B q), .string ⟨#[]⟩, .int .i64 0, .slice none 0 0]) (by simp [results, Tryz.results88, go_sem, s0, s1, s2, s3, s4]) rfl hp9
end Go.Proofs.YtphoglepiegeiaaGreatDoor
