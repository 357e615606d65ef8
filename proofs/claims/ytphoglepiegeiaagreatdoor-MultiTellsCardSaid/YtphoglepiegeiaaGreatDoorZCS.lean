/- A text of this proof. -/
import Derived.Deep.CutRange
import Derived.Test.YtphoglepiegeiaaGreatDoorZCC
import Derived.Test.YtphoglepiegeiaaGreatDoorZCD
import Derived.Test.YtphoglepiegeiaaGreatDoorZCR
set_option linter.unusedSimpArgs false
set_option linter.unusedVariables false
namespace Go.Proofs.YtphoglepiegeiaaGreatDoor
set_option maxRecDepth 20000
open Go.RowKit Pm
attribute [local irreducible] wpStill
theorem wrap_small {n : Int} (h1 : -9223372036854775808 ≤ n) (h2 : n ≤ 9223372036854775807) : IntKind.i64.wrap n = n := by
 simp [IntKind.wrap, IntKind.bits, IntKind.signed]; omega
set_option maxHeartbeats 4000000 in
theorem empty_e {lo b : Nat} {vn vt : Value} {s : St} {w : World} (h : Sw lo b vn vt s w) (x : Pt) (hst : StR s) (hm : mayP x = true) (hn : s.nodes.length ≤ 3900) (hnt : s.turns.length ≤ 3900) (ht : Tab w) (hk : x.kind = 4) :
  Calls Tryz.prog 90 #[.pointer (some ⟨b, 0, none⟩), ptV x] w (PmR lo b vn vt (doP s x).1 (doP s x).2 w) := by
 have hp : x.path.length ≤ 100 := split_len ((mayP_iff x).1 hm).2.1
 obtain ⟨k, d, p, da, v, o, t⟩ := x
 obtain rfl : k = 4 := hk
 simp only at hp
 have hf0 : Fp Non w ((w.alloc (.cells #[.int .i64 4, .string (B d), .string (B p), .string (B da), .int .i64 v, .int .i64 o, .bool t] TP)).alloc (.cells #[.int .i64 0, .string ⟨#[]⟩, .string ⟨#[]⟩, .int .i64 0, .slice none 0 0] TR)) := ((Fp.refl Non w).alloc _).alloc _
 have K0 := zI (Kp.and (Kp.sw (h.non hf0)) (Kp.and (Kp.bp (Bp.made w 4 d p da v o t)) (Kp.and (Kp.fp hf0) (Kp.tab (ht.non hf0)))))
 have HX := zI (yI h (yI hst (yI hm (yI hn hnt))))
 have hpt : ptV ⟨4, d, p, da, v, o, t⟩ = .agg #[.int .i64 4, .string (B d), .string (B p), .string (B da), .int .i64 v, .int .i64 o, .bool t] := rfl
 have HSP := zI (StR.sp hst)
 have hka := kids_any s.nodes p
 obtain ⟨c, hc⟩ : ∃ c, s.nodes.any (fun n => parent n.path == some p) = c := ⟨_, rfl⟩
 have HAny := zI hc
 rw [hc] at hka
 cases c with
 | true =>
  have e : doP s ⟨4, d, p, da, v, o, t⟩ = (s, .bad 64) := by
   have : kids s.nodes p ≠ [] := fun k => by have := hka.2 k; cases this
   unfold doP; simp [this]
  rw [e]
  clear hf0 h ht hst hm hn hnt hp e hc hka
  rw [hpt]
  clear hpt
  go_enter Tryz.func90, Tryz.ntmps90
  generalize hW0 : ((w.alloc (.cells #[.int .i64 4, .string (B d), .string (B p), .string (B da), .int .i64 v, .int .i64 o, .bool t] TP)).alloc (.cells #[.int .i64 0, .string ⟨#[]⟩, .string ⟨#[]⟩, .int .i64 0, .slice none 0 0] TR)) = W0 at *
  obtain ⟨o0, o1, o2, o3, o4, o5, o6⟩ := boxP7 K0.out.now.2.1.op
  obtain ⟨ao, cap, hsp⟩ := K0.out.now.1.own.ns.shape
  subst hsp
  go_wp2_with fail
  clear hW0
  have KD := zI (K0.out.later (Fp.refl Non W0).drew)
  have HS0 := zI (yI KD.out.now.1.c0 (boxP7 KD.out.now.2.1.op).2.2.1)
  refine wp_region_held_drew (S := (fun w' => w'.cell? ⟨b, 0, none⟩ = some (.slice ao s.nodes.length cap) ∧ w'.cell? ⟨w.heap.size, 2, none⟩ = some (.string (B p)))) (by kernel_rfl) ?_ (fun hH => ?_)
  ·exact HS0.out
  clear o0 o1 o2 o3 o4 o5 o6
  generalize W0.drew = Wd at *
  refine tk 0 hH ?_
  refine tk 1 hH ?_
  refine tk 2 hH ?_
  refine tk 3 hH ?_
  refine tk 4 hH ?_
  refine tk 5 hH ?_
  refine rY 6 fun K hK => ?_
  go_simp
  go_at_call 132
  refine (liesIn_c p _).mono ?_
  rintro e w1 ⟨rfl, hw1⟩
  obtain rfl := hw1.symm
  have K1 := zI (KD.out.later (fp_alloc Wd (.cells #[.string (B p)] 9)))
  have hpd := liesIn_pd p Wd Non (fun _ h => h.elim)
  have hcf := ContainsFunc_c _ _ s.nodes _ _ K1.out.now.1.own.ns HSP.out hpd (by have := HX.out.2.2.2.1; omega)
  rw [HAny.out] at hcf
  have HCF := zI hcf
  have HS1 := zI (yI K1.out.now.1.c0 (boxP7 K1.out.now.2.1.op).2.2.1)
  clear hpd hcf hw1
  go_wp2_with fail
  refine hK.out _ _ HS1.out (fun hH => ?_)
  clear hK K
  try simp only [zz]
  refine rY 7 fun K hK => ?_
  go_simp
  go_at_call 131
  refine HCF.out.mono ?_
  rintro e w2 ⟨rfl, hf⟩
  have K2 := zI (K1.out.later hf)
  have HS2 := zI (yI K2.out.now.1.c0 (boxP7 K2.out.now.2.1.op).2.2.1)
  clear hf
  go_wp2_with fail
  refine hK.out _ _ HS2.out (fun hH => ?_)
  clear hK K
  try simp only [zz]
  refine dn ?_
  go_wp2_with fail
  refine (refusedP_c 64 _).mono ?_
  rintro e w9 ⟨rfl, hf⟩
  have K9 := zI (K2.out.later hf)
  clear hf
  unfold badV
  have hbr := (Chd.still HX.out.1 K9.out.now.1 K9.out.now.2.1 K9.out.now.2.2.1).bp
  obtain ⟨r0, r1, r2, r3, r4⟩ := hbr.r
  have z0 := hbr.fz 0; have z1 := hbr.fz 1; have z2 := hbr.fz 2; have z3 := hbr.fz 3; have z4 := hbr.fz 4
  have HP := zI ((Chd.still HX.out.1 K9.out.now.1 K9.out.now.2.1 K9.out.now.2.2.1).done (.bad 64) (.slice none 0 0) (Own.nil _ _) (fun e => by simp [Value.ownBlock] at e) (64) (⟨#[]⟩) (⟨#[]⟩) (0) rfl rfl rfl rfl)
  have HW9 := zI (set5 hbr.res (.int .i64 64) (.string ⟨#[]⟩) (.string ⟨#[]⟩) (.int .i64 0) (.slice none 0 0))
  clear hbr
  go_wp2
  have hw9 := HW9.out
  have hp9 := HP.out
  generalize (((((World.setCell _ _ _).setCell _ _).setCell _ _).setCell _ _).setCell _ _) = wz at *
  obtain ⟨s0, s1, s2, s3, s4⟩ := b5 hw9
  exact bodyPost_ret (v := .agg #[.int .i64 64, .string ⟨#[]⟩, .string ⟨#[]⟩, .int .i64 0, .slice none 0 0]) (by simp [results, Tryz.results90, go_sem, s0, s1, s2, s3, s4]) rfl hp9
 | false => ?_
 have e : doP s ⟨4, d, p, da, v, o, t⟩ = (⟨s.nodes, setT s.turns p 0⟩, okR) := by
  have : kids s.nodes p = [] := hka.1 rfl
  unfold doP; simp [this]
 rw [e]
 clear hf0 h ht hst hm hn hnt hp e hc hka
 rw [hpt]
 clear hpt
 go_enter Tryz.func90, Tryz.ntmps90
 generalize hW0 : ((w.alloc (.cells #[.int .i64 4, .string (B d), .string (B p), .string (B da), .int .i64 v, .int .i64 o, .bool t] TP)).alloc (.cells #[.int .i64 0, .string ⟨#[]⟩, .string ⟨#[]⟩, .int .i64 0, .slice none 0 0] TR)) = W0 at *
 obtain ⟨o0, o1, o2, o3, o4, o5, o6⟩ := boxP7 K0.out.now.2.1.op
 obtain ⟨ao, cap, hsp⟩ := K0.out.now.1.own.ns.shape
 subst hsp
 go_wp2_with fail
 clear hW0
 have KD := zI (K0.out.later (Fp.refl Non W0).drew)
 have HS0 := zI (yI KD.out.now.1.c0 (boxP7 KD.out.now.2.1.op).2.2.1)
 refine wp_region_held_drew (S := (fun w' => w'.cell? ⟨b, 0, none⟩ = some (.slice ao s.nodes.length cap) ∧ w'.cell? ⟨w.heap.size, 2, none⟩ = some (.string (B p)))) (by kernel_rfl) ?_ (fun hH => ?_)
 ·exact HS0.out
 clear o0 o1 o2 o3 o4 o5 o6
 generalize W0.drew = Wd at *
 refine tk 0 hH ?_
 refine tk 1 hH ?_
 refine tk 2 hH ?_
 refine tk 3 hH ?_
 refine tk 4 hH ?_
 refine tk 5 hH ?_
 refine rY 6 fun K hK => ?_
 go_simp
 go_at_call 132
 refine (liesIn_c p _).mono ?_
 rintro e w1 ⟨rfl, hw1⟩
 obtain rfl := hw1.symm
 have K1 := zI (KD.out.later (fp_alloc Wd (.cells #[.string (B p)] 9)))
 have hpd := liesIn_pd p Wd Non (fun _ h => h.elim)
 have hcf := ContainsFunc_c _ _ s.nodes _ _ K1.out.now.1.own.ns HSP.out hpd (by have := HX.out.2.2.2.1; omega)
 rw [HAny.out] at hcf
 have HCF := zI hcf
 have HS1 := zI (yI K1.out.now.1.c0 (boxP7 K1.out.now.2.1.op).2.2.1)
 clear hpd hcf hw1
 go_wp2_with fail
 refine hK.out _ _ HS1.out (fun hH => ?_)
 clear hK K
 try simp only [zz]
 refine rY 7 fun K hK => ?_
 go_simp
 go_at_call 131
 refine HCF.out.mono ?_
 rintro e w2 ⟨rfl, hf⟩
 have K2 := zI (K1.out.later hf)
 have HS2 := zI (yI K2.out.now.1.c0 (boxP7 K2.out.now.2.1.op).2.2.1)
 clear hf
 go_wp2_with fail
 refine hK.out _ _ HS2.out (fun hH => ?_)
 clear hK K
 try simp only [zz]
 refine dn ?_
 obtain ⟨o0, o1, o2, o3, o4, o5, o6⟩ := boxP7 K2.out.now.2.1.op
 have hse := setTurn_c K2.out.now.1 p 0 HX.out.2.1.tasc HX.out.2.2.2.2
 have HSE := zI hse
 clear hse
 go_wp2_with fail
 clear o0 o1 o2 o3 o4 o5 o6
 refine HSE.out.mono ?_
 rintro e w3 ⟨rfl, hR⟩
 obtain ⟨vt', hsw, hnw⟩ := hR.ex
 have HC := zI (Chd.of HX.out.1 K2.out.now.2.1 hsw K2.out.now.2.2.1 (hR.fp.mono (fun k hk => hk.imp id .inr)) (fun k hk => .inl hk) hnw)
 clear hR hsw hnw
 have hbr := (HC.out).bp
 obtain ⟨r0, r1, r2, r3, r4⟩ := hbr.r
 have z0 := hbr.fz 0; have z1 := hbr.fz 1; have z2 := hbr.fz 2; have z3 := hbr.fz 3; have z4 := hbr.fz 4
 have HP := zI ((HC.out).done okR (.slice none 0 0) (Own.nil _ _) (fun e => by simp [Value.ownBlock] at e) (0) (⟨#[]⟩) (⟨#[]⟩) (0) rfl rfl rfl rfl)
 have HW9 := zI (set5 hbr.res (.int .i64 0) (.string ⟨#[]⟩) (.string ⟨#[]⟩) (.int .i64 0) (.slice none 0 0))
 clear hbr
 go_wp2
 have hw9 := HW9.out
 have hp9 := HP.out
 generalize (((((World.setCell _ _ _).setCell _ _).setCell _ _).setCell _ _).setCell _ _) = wz at *
 obtain ⟨s0, s1, s2, s3, s4⟩ := b5 hw9
 exact bodyPost_ret (v := .agg #[.int .i64 0, .string ⟨#[]⟩, .string ⟨#[]⟩, .int .i64 0, .slice none 0 0]) (by simp [results, Tryz.results90, go_sem, s0, s1, s2, s3, s4]) rfl hp9
set_option maxHeartbeats 16000000 in
theorem put_e {lo b : Nat} {vn vt : Value} {s : St} {w : World} (h : Sw lo b vn vt s w) (x : Pt) (hst : StR s) (hm : mayP x = true) (hn : s.nodes.length ≤ 3900) (hnt : s.turns.length ≤ 3900) (ht : Tab w) (hk : x.kind = 2) :
  Calls Tryz.prog 88 #[.pointer (some ⟨b, 0, none⟩), ptV x] w (PmR lo b vn vt (doP s x).1 (doP s x).2 w) := by
 have hp : x.path.length ≤ 100 := split_len ((mayP_iff x).1 hm).2.1
 obtain ⟨k, d, p, da, v, o, t⟩ := x
 obtain rfl : k = 2 := hk
 simp only at hp
 have hf0 : Fp Non w ((w.alloc (.cells #[.int .i64 2, .string (B d), .string (B p), .string (B da), .int .i64 v, .int .i64 o, .bool t] TP)).alloc (.cells #[.int .i64 0, .string ⟨#[]⟩, .string ⟨#[]⟩, .int .i64 0, .slice none 0 0] TR)) := ((Fp.refl Non w).alloc _).alloc _
 have K0 := zI (Kp.and (Kp.sw (h.non hf0)) (Kp.and (Kp.bp (Bp.made w 2 d p da v o t)) (Kp.and (Kp.fp hf0) (Kp.tab (ht.non hf0)))))
 have HX := zI (yI h (yI hst (yI hm (yI hn hnt))))
 have hpt : ptV ⟨2, d, p, da, v, o, t⟩ = .agg #[.int .i64 2, .string (B d), .string (B p), .string (B da), .int .i64 v, .int .i64 o, .bool t] := rfl
 have HNP := zI (fun W (hW : Sw lo b vn vt s W) (hT : Tab W) => newPath_c hW ⟨2, d, p, da, v, o, t⟩ hst hm (by omega) hT)
 have HST := zI hst
 obtain ⟨np, hnp⟩ : ∃ np, newPath s ⟨2, d, p, da, v, o, t⟩ = np := ⟨_, rfl⟩
 rw [hnp, hpt] at HNP
 cases np with
 | none =>
  have e : doP s ⟨2, d, p, da, v, o, t⟩ = (s, .bad 66) := by unfold doP putS; rw [if_pos rfl, hnp]
  rw [e]
  simp only [Option.getD_none, Option.isSome_none] at HNP
  clear hf0 h ht hst hm hn hnt hp e hnp
  rw [hpt]
  clear hpt
  go_enter Tryz.func88, Tryz.ntmps88
  generalize hW0 : ((w.alloc (.cells #[.int .i64 2, .string (B d), .string (B p), .string (B da), .int .i64 v, .int .i64 o, .bool t] TP)).alloc (.cells #[.int .i64 0, .string ⟨#[]⟩, .string ⟨#[]⟩, .int .i64 0, .slice none 0 0] TR)) = W0 at *
  obtain ⟨o0, o1, o2, o3, o4, o5, o6⟩ := boxP7 K0.out.now.2.1.op
  go_wp2_with fail
  clear hW0
  refine (HNP.out _ K0.out.now.1 K0.out.now.2.2.2).mono ?_
  rintro e w1 ⟨rfl, hf1⟩
  have K1 := zI (K0.out.later hf1)
  clear hf1
  clear o0 o1 o2 o3 o4 o5 o6
  go_wp2_with fail
  refine (refusedP_c 66 _).mono ?_
  rintro e w9 ⟨rfl, hf⟩
  have K9 := zI (K1.out.later hf)
  clear hf
  unfold badV
  have hbr := (Chd.still HX.out.1 K9.out.now.1 K9.out.now.2.1 K9.out.now.2.2.1).bp
  obtain ⟨r0, r1, r2, r3, r4⟩ := hbr.r
  have z0 := hbr.fz 0; have z1 := hbr.fz 1; have z2 := hbr.fz 2; have z3 := hbr.fz 3; have z4 := hbr.fz 4
  have HP := zI ((Chd.still HX.out.1 K9.out.now.1 K9.out.now.2.1 K9.out.now.2.2.1).done (.bad 66) (.slice none 0 0) (Own.nil _ _) (fun e => by simp [Value.ownBlock] at e) (66) (⟨#[]⟩) (⟨#[]⟩) (0) rfl rfl rfl rfl)
  have HW9 := zI (set5 hbr.res (.int .i64 66) (.string ⟨#[]⟩) (.string ⟨#[]⟩) (.int .i64 0) (.slice none 0 0))
  clear hbr
  go_wp2
  have hw9 := HW9.out
  have hp9 := HP.out
  generalize (((((World.setCell _ _ _).setCell _ _).setCell _ _).setCell _ _).setCell _ _) = wz at *
  obtain ⟨s0, s1, s2, s3, s4⟩ := b5 hw9
  exact bodyPost_ret (v := .agg #[.int .i64 66, .string ⟨#[]⟩, .string ⟨#[]⟩, .int .i64 0, .slice none 0 0]) (by simp [results, Tryz.results88, go_sem, s0, s1, s2, s3, s4]) rfl hp9
 | some q => ?_
 obtain ⟨kq, hkq⟩ : ∃ kq, kq = place s.nodes q := ⟨_, rfl⟩
 have HPL := zI (fun W (hW : Sw lo b vn vt s W) => placeP_c vn s.nodes q W hW.own.ns hst.asc (by omega))
 rw [← hkq] at HPL
 simp only [Option.getD_some, Option.isSome_some] at HNP
 cases hf : find s.nodes q with
 | some y =>
  have e : doP s ⟨2, d, p, da, v, o, t⟩ = (s, .bad 61) := by unfold doP putS; rw [if_pos rfl, hnp]; simp [hf]
  rw [e]
  rw [hf] at HPL
  simp only [Option.isSome_some] at HPL
  clear hf0 h ht hst hm hn hnt hp e hnp hf hkq
  rw [hpt]
  clear hpt
  go_enter Tryz.func88, Tryz.ntmps88
  generalize hW0 : ((w.alloc (.cells #[.int .i64 2, .string (B d), .string (B p), .string (B da), .int .i64 v, .int .i64 o, .bool t] TP)).alloc (.cells #[.int .i64 0, .string ⟨#[]⟩, .string ⟨#[]⟩, .int .i64 0, .slice none 0 0] TR)) = W0 at *
  obtain ⟨o0, o1, o2, o3, o4, o5, o6⟩ := boxP7 K0.out.now.2.1.op
  go_wp2_with fail
  clear hW0
  refine (HNP.out _ K0.out.now.1 K0.out.now.2.2.2).mono ?_
  rintro e w1 ⟨rfl, hf1⟩
  have K1 := zI (K0.out.later hf1)
  clear hf1
  clear o0 o1 o2 o3 o4 o5 o6
  have cb1 := K1.out.now.1.c0
  obtain ⟨ao, cap, hsp⟩ := K1.out.now.1.own.ns.shape
  subst hsp
  go_wp2_with fail
  refine (HPL.out _ K1.out.now.1).mono ?_
  rintro e w2 ⟨rfl, hf2⟩
  have K2 := zI (K1.out.later hf2)
  clear hf2 cb1 HPL
  go_wp2_with fail
  refine (refusedP_c 61 _).mono ?_
  rintro e w9 ⟨rfl, hf⟩
  have K9 := zI (K2.out.later hf)
  clear hf
  unfold badV
  have hbr := (Chd.still HX.out.1 K9.out.now.1 K9.out.now.2.1 K9.out.now.2.2.1).bp
  obtain ⟨r0, r1, r2, r3, r4⟩ := hbr.r
  have z0 := hbr.fz 0; have z1 := hbr.fz 1; have z2 := hbr.fz 2; have z3 := hbr.fz 3; have z4 := hbr.fz 4
  have HP := zI ((Chd.still HX.out.1 K9.out.now.1 K9.out.now.2.1 K9.out.now.2.2.1).done (.bad 61) (.slice none 0 0) (Own.nil _ _) (fun e => by simp [Value.ownBlock] at e) (61) (⟨#[]⟩) (⟨#[]⟩) (0) rfl rfl rfl rfl)
  have HW9 := zI (set5 hbr.res (.int .i64 61) (.string ⟨#[]⟩) (.string ⟨#[]⟩) (.int .i64 0) (.slice none 0 0))
  clear hbr
  go_wp2
  have hw9 := HW9.out
  have hp9 := HP.out
  generalize (((((World.setCell _ _ _).setCell _ _).setCell _ _).setCell _ _).setCell _ _) = wz at *
  obtain ⟨s0, s1, s2, s3, s4⟩ := b5 hw9
  exact bodyPost_ret (v := .agg #[.int .i64 61, .string ⟨#[]⟩, .string ⟨#[]⟩, .int .i64 0, .slice none 0 0]) (by simp [results, Tryz.results88, go_sem, s0, s1, s2, s3, s4]) rfl hp9
 | none => ?_
 rw [hf] at HPL
 simp only [Option.isSome_none] at HPL
 have HKQ := zI (show kq ≤ s.nodes.length by rw [hkq]; exact place_le _ _)
 cases t with
 | false =>
  have e : doP s ⟨2, d, p, da, v, o, false⟩ = (⟨ins s.nodes kq ⟨q, da, 0, 0, o⟩, s.turns⟩, ⟨0, q, [], 0, []⟩) := by unfold doP putS; rw [if_pos rfl, hnp]; simp [hf, hkq]
  rw [e]
  clear hf0 h ht hst hm hn hnt hp e hnp hf hkq
  rw [hpt]
  clear hpt
  go_enter Tryz.func88, Tryz.ntmps88
  generalize hW0 : ((w.alloc (.cells #[.int .i64 2, .string (B d), .string (B p), .string (B da), .int .i64 v, .int .i64 o, .bool false] TP)).alloc (.cells #[.int .i64 0, .string ⟨#[]⟩, .string ⟨#[]⟩, .int .i64 0, .slice none 0 0] TR)) = W0 at *
  obtain ⟨o0, o1, o2, o3, o4, o5, o6⟩ := boxP7 K0.out.now.2.1.op
  go_wp2_with fail
  clear hW0
  refine (HNP.out _ K0.out.now.1 K0.out.now.2.2.2).mono ?_
  rintro e w1 ⟨rfl, hf1⟩
  have K1 := zI (K0.out.later hf1)
  clear hf1
  clear o0 o1 o2 o3 o4 o5 o6
  have cb1 := K1.out.now.1.c0
  obtain ⟨ao, cap, hsp⟩ := K1.out.now.1.own.ns.shape
  subst hsp
  go_wp2_with fail
  refine (HPL.out _ K1.out.now.1).mono ?_
  rintro e w2 ⟨rfl, hf2⟩
  have K2 := zI (K1.out.later hf2)
  clear hf2 cb1 HPL
  go_wp2_with fail
  have KD := zI (K2.out.later (Fp.refl Non w2).drew)
  have HSD := zI (yI (boxP7 KD.out.now.2.1.op).2.2.2.1 (boxP7 KD.out.now.2.1.op).2.2.2.2.2.1)
  have cbd := KD.out.now.1.c0
  refine wp_region_held_drew (S := (fun w' => w'.cell? ⟨w.heap.size, 3, none⟩ = some (.string (B da)) ∧ w'.cell? ⟨w.heap.size, 5, none⟩ = some (.int .i64 o))) (by kernel_rfl) ?_ (fun hH => ?_)
  ·exact HSD.out
  generalize w2.drew = wd at *
  refine tk 0 hH ?_
  refine tk 1 hH ?_
  refine tk 2 hH ?_
  refine tk 3 hH ?_
  refine tk 5 hH ?_
  refine tk 6 hH ?_
  refine tk 7 hH ?_
  refine tk 8 hH ?_
  refine tk 9 hH ?_
  refine tk 10 hH ?_
  refine tk 11 hH ?_
  have hfa := fp_alloc wd (.cells #[.string (B q), .string (B da), .int .i64 0, .int .i64 0, .int .i64 o] TN)
  have hXa : (wd.alloc (.cells #[.string (B q), .string (B da), .int .i64 0, .int .i64 0, .int .i64 o] TN)).heap[wd.heap.size]? = some (.cells (ndC ⟨q, da, 0, 0, o⟩).toArray TN (0, 0)) := heap_alloc_new wd _
  have KA := zI (KD.out.later hfa)
  have HSA := zI (yI (boxP7 KA.out.now.2.1.op).2.2.2.1 (boxP7 KA.out.now.2.1.op).2.2.2.2.2.1)
  have hin := Insert_own (x := ⟨q, da, 0, 0, o⟩) KA.out.now.1.own kq HKQ.out hXa (fun e => by have := KD.out.now.1.ltN _ e; omega) (by have := HX.out.2.2.2.1; omega) (by have h1 := HX.out.1.low; have h2 := HX.out.1.lt; have h3 := KA.out.now.2.2.1.size; omega)
  have HIN := zI hin
  have cba := KA.out.now.1.c0
  clear hfa hXa hin
  refine wpAnyH_ready (rs := [4, 12]) (by kernel_rfl) (by simp) ?_
  refine AllReadyH.cons (o := ?_) (by simp only [zA, zB, zC] <;> exact rfl) (fun K hK => ?_) (AllReadyH.cons (o := ?_) (by simp only [zA, zB, zC] <;> exact rfl) (fun K hK => ?_) AllReadyH.nil)
  ·go_simp
   refine hK.out _ _ HSD.out (fun hH => ?_)
   clear hK K
   try simp only [zz]
   refine rY 12 fun K hK => ?_
   go_simp
   refine hK.out _ _ HSA.out (fun hH => ?_)
   clear hK K cbd cba
   try simp only [zz]
   generalize (wd.alloc (.cells #[.string (B q), .string (B da), .int .i64 0, .int .i64 0, .int .i64 o] TN)) = wa at *
   refine rY 13 fun K hK => ?_
   go_simp
   go_at_call 125
   refine HIN.out.mono ?_
   rintro e w7 ⟨v7, rfl, hc⟩
   have hp7 := KA.out.now.1.putN (Fp.refl Non wa) hc
   have hnB : ∀ k, k = w.heap.size → ¬ (Value.slice ao s.nodes.length cap).ownBlock = some k := fun k hk e => by have := HX.out.1.ltN _ e; omega
   have hbB : b ≠ w.heap.size := fun e => by have := HX.out.1.lt; omega
   have hS7 := yI (hc.fp.cell HSA.out.1 (fun e => hnB _ rfl e)) (hc.fp.cell HSA.out.2 (fun e => hnB _ rfl e))
   have HS7 := zI hS7
   have hfb : Fp (fun k => k = b) w7 (w7.setCell ⟨b, 0, none⟩ v7) := (Fp.refl (fun k => k = b) w7).setCell (p := ⟨b, 0, none⟩) (.inl rfl) v7
   have HS8 := zI (yI (hfb.cell hS7.1 (fun e => hbB e.symm)) (hfb.cell hS7.2 (fun e => hbB e.symm)))
   have cb7 := hc.fp.cell KA.out.now.1.c0 (fun e => KA.out.now.1.neN e)
   have zb7 : w7.frozen? ⟨b, 0, none⟩ = false := by have := hc.fp.heap KA.out.now.1.blk (fun e => KA.out.now.1.neN e); simp [World.frozen?, this]
   have HC7 := zI (Chd.of HX.out.1 KA.out.now.2.1 hp7.1 KA.out.now.2.2.1 (hp7.2.1.mono (fun k hk => hk.imp id .inl)) hp7.2.2 (fun k hk => .inl hk))
   have HP7 := zI hp7
   obtain ⟨a7, c7, rfl⟩ := hc.own.ns.shape
   obtain ⟨n7, hn7⟩ : ∃ n7, n7 = (ins s.nodes kq ⟨q, da, 0, 0, o⟩).length := ⟨_, rfl⟩
   rw [← hn7] at HS8 HC7 HP7 ⊢
   clear hc hp7 hnB hbB hS7 hfb hn7 HIN
   go_wp2_with fail
   refine hK.out _ _ HS7.out (fun hH => ?_)
   clear hK K
   try simp only [zz]
   refine tk 14 hH ?_
   refine tk 15 hH ?_
   refine rY 16 fun K hK => ?_
   go_simp
   refine hK.out _ _ HS8.out (fun hH => ?_)
   clear hK K hH cb7 zb7
   try simp only [zz]
   refine dn ?_
   generalize (w7.setCell ⟨b, 0, none⟩ _) = W8 at *
   obtain ⟨o0, o1, o2, o3, o4, o5, o6⟩ := boxP7 HC7.out.bp.op
   have hbr := (HC7.out).bp
   obtain ⟨r0, r1, r2, r3, r4⟩ := hbr.r
   have z0 := hbr.fz 0; have z1 := hbr.fz 1; have z2 := hbr.fz 2; have z3 := hbr.fz 3; have z4 := hbr.fz 4
   have HP := zI ((HC7.out).done ⟨0, q, [], 0, []⟩ (.slice none 0 0) (Own.nil _ _) (fun e => by simp [Value.ownBlock] at e) (0) ((B q)) (⟨#[]⟩) (0) rfl rfl rfl rfl)
   have HW9 := zI (set5 hbr.res (.int .i64 0) (.string (B q)) (.string ⟨#[]⟩) (.int .i64 0) (.slice none 0 0))
   clear hbr
   go_wp2
   have hw9 := HW9.out
   have hp9 := HP.out
   generalize (((((World.setCell _ _ _).setCell _ _).setCell _ _).setCell _ _).setCell _ _) = wz at *
   obtain ⟨s0, s1, s2, s3, s4⟩ := b5 hw9
   exact bodyPost_ret (v := .agg #[.int .i64 0, .string (B q), .string ⟨#[]⟩, .int .i64 0, .slice none 0 0]) (by simp [results, Tryz.results88, go_sem, s0, s1, s2, s3, s4]) rfl hp9
  go_simp
  refine hK.out _ _ HSA.out (fun hH => ?_)
  clear hK K cbd
  try simp only [zz]
  generalize (wd.alloc (.cells #[.string (B q), .string (B da), .int .i64 0, .int .i64 0, .int .i64 o] TN)) = wa at *
  refine rY 4 fun K hK => ?_
  go_simp
  refine hK.out _ _ HSA.out (fun hH => ?_)
  clear hK K cba
  try simp only [zz]
  refine rY 13 fun K hK => ?_
  go_simp
  go_at_call 125
  refine HIN.out.mono ?_
  rintro e w7 ⟨v7, rfl, hc⟩
  have hp7 := KA.out.now.1.putN (Fp.refl Non wa) hc
  have hnB : ∀ k, k = w.heap.size → ¬ (Value.slice ao s.nodes.length cap).ownBlock = some k := fun k hk e => by have := HX.out.1.ltN _ e; omega
  have hbB : b ≠ w.heap.size := fun e => by have := HX.out.1.lt; omega
  have hS7 := yI (hc.fp.cell HSA.out.1 (fun e => hnB _ rfl e)) (hc.fp.cell HSA.out.2 (fun e => hnB _ rfl e))
  have HS7 := zI hS7
  have hfb : Fp (fun k => k = b) w7 (w7.setCell ⟨b, 0, none⟩ v7) := (Fp.refl (fun k => k = b) w7).setCell (p := ⟨b, 0, none⟩) (.inl rfl) v7
  have HS8 := zI (yI (hfb.cell hS7.1 (fun e => hbB e.symm)) (hfb.cell hS7.2 (fun e => hbB e.symm)))
  have cb7 := hc.fp.cell KA.out.now.1.c0 (fun e => KA.out.now.1.neN e)
  have zb7 : w7.frozen? ⟨b, 0, none⟩ = false := by have := hc.fp.heap KA.out.now.1.blk (fun e => KA.out.now.1.neN e); simp [World.frozen?, this]
  have HC7 := zI (Chd.of HX.out.1 KA.out.now.2.1 hp7.1 KA.out.now.2.2.1 (hp7.2.1.mono (fun k hk => hk.imp id .inl)) hp7.2.2 (fun k hk => .inl hk))
  have HP7 := zI hp7
  obtain ⟨a7, c7, rfl⟩ := hc.own.ns.shape
  obtain ⟨n7, hn7⟩ : ∃ n7, n7 = (ins s.nodes kq ⟨q, da, 0, 0, o⟩).length := ⟨_, rfl⟩
  rw [← hn7] at HS8 HC7 HP7 ⊢
  clear hc hp7 hnB hbB hS7 hfb hn7 HIN
  go_wp2_with fail
  refine hK.out _ _ HS7.out (fun hH => ?_)
  clear hK K
  try simp only [zz]
  refine tk 14 hH ?_
  refine tk 15 hH ?_
  refine rY 16 fun K hK => ?_
  go_simp
  refine hK.out _ _ HS8.out (fun hH => ?_)
  clear hK K hH cb7 zb7
  try simp only [zz]
  refine dn ?_
  generalize (w7.setCell ⟨b, 0, none⟩ _) = W8 at *
  obtain ⟨o0, o1, o2, o3, o4, o5, o6⟩ := boxP7 HC7.out.bp.op
  have hbr := (HC7.out).bp
  obtain ⟨r0, r1, r2, r3, r4⟩ := hbr.r
  have z0 := hbr.fz 0; have z1 := hbr.fz 1; have z2 := hbr.fz 2; have z3 := hbr.fz 3; have z4 := hbr.fz 4
  have HP := zI ((HC7.out).done ⟨0, q, [], 0, []⟩ (.slice none 0 0) (Own.nil _ _) (fun e => by simp [Value.ownBlock] at e) (0) ((B q)) (⟨#[]⟩) (0) rfl rfl rfl rfl)
  have HW9 := zI (set5 hbr.res (.int .i64 0) (.string (B q)) (.string ⟨#[]⟩) (.int .i64 0) (.slice none 0 0))
  clear hbr
  go_wp2
  have hw9 := HW9.out
  have hp9 := HP.out
  generalize (((((World.setCell _ _ _).setCell _ _).setCell _ _).setCell _ _).setCell _ _) = wz at *
  obtain ⟨s0, s1, s2, s3, s4⟩ := b5 hw9
  exact bodyPost_ret (v := .agg #[.int .i64 0, .string (B q), .string ⟨#[]⟩, .int .i64 0, .slice none 0 0]) (by simp [results, Tryz.results88, go_sem, s0, s1, s2, s3, s4]) rfl hp9
 | true => ?_
 have e : doP s ⟨2, d, p, da, v, o, true⟩ = (⟨ins s.nodes kq ⟨q, da, 0, 0, o⟩, setT s.turns d (turnOf s.turns d + 1)⟩, ⟨0, q, [], 0, []⟩) := by unfold doP putS; rw [if_pos rfl, hnp]; simp [hf, hkq]
 rw [e]
 have htb := turnOf_bounds hst.tfit d
 have hTU := fun (W : World) (vn' : Value) (l' : List Nd) (hW : Sw lo b vn' vt ⟨l', s.turns⟩ W) => turn_c hW d hst.tasc (by have := hnt; show s.turns.length ≤ 1000000; omega)
 obtain ⟨tt, htt⟩ : ∃ tt, tt = turnOf s.turns d := ⟨_, rfl⟩
 simp only [← htt] at hTU htb ⊢
 have HTU := zI hTU
 have hw64 : IntKind.i64.wrap (tt + 1) = tt + 1 := wrap_small (by omega) (by omega)
 have HW64 := zI hw64
 clear hw64 hTU htt htb
 clear hf0 h ht hst hm hn hnt hp e hnp hf hkq
 rw [hpt]
 clear hpt
 go_enter Tryz.func88, Tryz.ntmps88
 generalize hW0 : ((w.alloc (.cells #[.int .i64 2, .string (B d), .string (B p), .string (B da), .int .i64 v, .int .i64 o, .bool true] TP)).alloc (.cells #[.int .i64 0, .string ⟨#[]⟩, .string ⟨#[]⟩, .int .i64 0, .slice none 0 0] TR)) = W0 at *
 obtain ⟨o0, o1, o2, o3, o4, o5, o6⟩ := boxP7 K0.out.now.2.1.op
 go_wp2_with fail
 clear hW0
 refine (HNP.out _ K0.out.now.1 K0.out.now.2.2.2).mono ?_
 rintro e w1 ⟨rfl, hf1⟩
 have K1 := zI (K0.out.later hf1)
 clear hf1
 clear o0 o1 o2 o3 o4 o5 o6
 have cb1 := K1.out.now.1.c0
 obtain ⟨ao, cap, hsp⟩ := K1.out.now.1.own.ns.shape
 subst hsp
 go_wp2_with fail
 refine (HPL.out _ K1.out.now.1).mono ?_
 rintro e w2 ⟨rfl, hf2⟩
 have K2 := zI (K1.out.later hf2)
 clear hf2 cb1 HPL
 go_wp2_with fail
 have KD := zI (K2.out.later (Fp.refl Non w2).drew)
 have HSD := zI (yI (boxP7 KD.out.now.2.1.op).2.2.2.1 (boxP7 KD.out.now.2.1.op).2.2.2.2.2.1)
 have cbd := KD.out.now.1.c0
 refine wp_region_held_drew (S := (fun w' => w'.cell? ⟨w.heap.size, 3, none⟩ = some (.string (B da)) ∧ w'.cell? ⟨w.heap.size, 5, none⟩ = some (.int .i64 o))) (by kernel_rfl) ?_ (fun hH => ?_)
 ·exact HSD.out
 generalize w2.drew = wd at *
 refine tk 0 hH ?_
 refine tk 1 hH ?_
 refine tk 2 hH ?_
 refine tk 3 hH ?_
 refine tk 5 hH ?_
 refine tk 6 hH ?_
 refine tk 7 hH ?_
 refine tk 8 hH ?_
 refine tk 9 hH ?_
 refine tk 10 hH ?_
 refine tk 11 hH ?_
 have hfa := fp_alloc wd (.cells #[.string (B q), .string (B da), .int .i64 0, .int .i64 0, .int .i64 o] TN)
 have hXa : (wd.alloc (.cells #[.string (B q), .string (B da), .int .i64 0, .int .i64 0, .int .i64 o] TN)).heap[wd.heap.size]? = some (.cells (ndC ⟨q, da, 0, 0, o⟩).toArray TN (0, 0)) := heap_alloc_new wd _
 have KA := zI (KD.out.later hfa)
 have HSA := zI (yI (boxP7 KA.out.now.2.1.op).2.2.2.1 (boxP7 KA.out.now.2.1.op).2.2.2.2.2.1)
 have hin := Insert_own (x := ⟨q, da, 0, 0, o⟩) KA.out.now.1.own kq HKQ.out hXa (fun e => by have := KD.out.now.1.ltN _ e; omega) (by have := HX.out.2.2.2.1; omega) (by have h1 := HX.out.1.low; have h2 := HX.out.1.lt; have h3 := KA.out.now.2.2.1.size; omega)
 have HIN := zI hin
 have cba := KA.out.now.1.c0
 clear hfa hXa hin
 refine wpAnyH_ready (rs := [4, 12]) (by kernel_rfl) (by simp) ?_
 refine AllReadyH.cons (o := ?_) (by simp only [zA, zB, zC] <;> exact rfl) (fun K hK => ?_) (AllReadyH.cons (o := ?_) (by simp only [zA, zB, zC] <;> exact rfl) (fun K hK => ?_) AllReadyH.nil)
 ·go_simp
  refine hK.out _ _ HSD.out (fun hH => ?_)
  clear hK K
  try simp only [zz]
  refine rY 12 fun K hK => ?_
  go_simp
  refine hK.out _ _ HSA.out (fun hH => ?_)
  clear hK K cbd cba
  try simp only [zz]
  generalize (wd.alloc (.cells #[.string (B q), .string (B da), .int .i64 0, .int .i64 0, .int .i64 o] TN)) = wa at *
  refine rY 13 fun K hK => ?_
  go_simp
  go_at_call 125
  refine HIN.out.mono ?_
  rintro e w7 ⟨v7, rfl, hc⟩
  have hp7 := KA.out.now.1.putN (Fp.refl Non wa) hc
  have hnB : ∀ k, k = w.heap.size → ¬ (Value.slice ao s.nodes.length cap).ownBlock = some k := fun k hk e => by have := HX.out.1.ltN _ e; omega
  have hbB : b ≠ w.heap.size := fun e => by have := HX.out.1.lt; omega
  have hS7 := yI (hc.fp.cell HSA.out.1 (fun e => hnB _ rfl e)) (hc.fp.cell HSA.out.2 (fun e => hnB _ rfl e))
  have HS7 := zI hS7
  have hfb : Fp (fun k => k = b) w7 (w7.setCell ⟨b, 0, none⟩ v7) := (Fp.refl (fun k => k = b) w7).setCell (p := ⟨b, 0, none⟩) (.inl rfl) v7
  have HS8 := zI (yI (hfb.cell hS7.1 (fun e => hbB e.symm)) (hfb.cell hS7.2 (fun e => hbB e.symm)))
  have cb7 := hc.fp.cell KA.out.now.1.c0 (fun e => KA.out.now.1.neN e)
  have zb7 : w7.frozen? ⟨b, 0, none⟩ = false := by have := hc.fp.heap KA.out.now.1.blk (fun e => KA.out.now.1.neN e); simp [World.frozen?, this]
  have HC7 := zI (Chd.of HX.out.1 KA.out.now.2.1 hp7.1 KA.out.now.2.2.1 (hp7.2.1.mono (fun k hk => hk.imp id .inl)) hp7.2.2 (fun k hk => .inl hk))
  have HP7 := zI hp7
  obtain ⟨a7, c7, rfl⟩ := hc.own.ns.shape
  obtain ⟨n7, hn7⟩ : ∃ n7, n7 = (ins s.nodes kq ⟨q, da, 0, 0, o⟩).length := ⟨_, rfl⟩
  rw [← hn7] at HS8 HC7 HP7 ⊢
  clear hc hp7 hnB hbB hS7 hfb hn7 HIN
  go_wp2_with fail
  refine hK.out _ _ HS7.out (fun hH => ?_)
  clear hK K
  try simp only [zz]
  refine tk 14 hH ?_
  refine tk 15 hH ?_
  refine rY 16 fun K hK => ?_
  go_simp
  refine hK.out _ _ HS8.out (fun hH => ?_)
  clear hK K hH cb7 zb7
  try simp only [zz]
  refine dn ?_
  generalize (w7.setCell ⟨b, 0, none⟩ _) = W8 at *
  obtain ⟨o0, o1, o2, o3, o4, o5, o6⟩ := boxP7 HC7.out.bp.op
  go_wp2_with fail
  have HS9 := zI (boxP7 ((HC7.out.bp.non (Fp.refl Non W8).drew).op)).2.1
  clear o0 o1 o2 o3 o4 o5 o6
  refine wp_region_held_drew (S := (fun w' => w'.cell? ⟨w.heap.size, 1, none⟩ = some (.string (B d)))) (by kernel_rfl) ?_ (fun hH => ?_)
  ·exact HS9.out
  refine tk 0 hH ?_
  refine tk 1 hH ?_
  refine tk 2 hH ?_
  refine tk 3 hH ?_
  refine tk 4 hH ?_
  refine tk 5 hH ?_
  refine rY 6 fun K hK => ?_
  go_simp
  go_at_call 127
  refine (HTU.out _ _ _ (HP7.out.1.non (Fp.refl Non W8).drew)).mono ?_
  rintro e w10 ⟨rfl, hf10⟩
  have hfx : Fp Non W8 w10 := ((Fp.refl Non W8).drew).then hf10
  have h10 := HP7.out.1.non hfx
  have hb10 := HC7.out.bp.non hfx
  have HS10 := zI (boxP7 hb10.op).2.1
  have hse := setTurn_c h10 d (tt + 1) HST.out.tasc (show s.turns.length ≤ 3900 from HX.out.2.2.2.2)
  have HSE := zI hse
  have HFX := zI (yI hfx hb10)
  have hw64 := HW64.out
  clear hf10 hfx h10 hb10 hse
  go_wp2_with fail
  refine hK.out _ _ HS10.out (fun hH => ?_)
  clear hK K
  try simp only [zz]
  refine tk 7 hH ?_
  clear hw64
  refine rY 8 fun K hK => ?_
  go_simp
  go_at_call 126
  try rw [HW64.out]
  refine HSE.out.mono ?_
  rintro e w11 ⟨rfl, hR⟩
  obtain ⟨vt', hsw, hnw⟩ := hR.ex
  have HS11 := zI (hR.fp.cell HS10.out (fun e => by
   rcases e with e | e
   ·have := HX.out.1.lt; simp only at e; omega
   have := HX.out.1.ltT _ e; simp only at this; omega))
  have HC := zI (Chd.of HX.out.1 KA.out.now.2.1 hsw KA.out.now.2.2.1 ((((HP7.out.2.1.mono (T := ownS b (.slice ao s.nodes.length cap) vt) (fun k hk => hk.imp id .inl)).same (HFX.out.1.any)).same (hR.fp.mono (fun k hk => hk.imp id .inr)))) HP7.out.2.2 (fun k hk => (hnw k hk).imp id (fun h => by have h1 := HP7.out.2.1.size; have h2 := HFX.out.1.size; omega)))
  clear hR hsw hnw
  go_wp2_with fail
  refine hK.out _ _ HS11.out (fun hH => ?_)
  clear hK K
  try simp only [zz]
  refine dn ?_
  have hbr := (HC.out).bp
  obtain ⟨r0, r1, r2, r3, r4⟩ := hbr.r
  have z0 := hbr.fz 0; have z1 := hbr.fz 1; have z2 := hbr.fz 2; have z3 := hbr.fz 3; have z4 := hbr.fz 4
  have HP := zI ((HC.out).done ⟨0, q, [], 0, []⟩ (.slice none 0 0) (Own.nil _ _) (fun e => by simp [Value.ownBlock] at e) (0) ((B q)) (⟨#[]⟩) (0) rfl rfl rfl rfl)
  have HW9 := zI (set5 hbr.res (.int .i64 0) (.string (B q)) (.string ⟨#[]⟩) (.int .i64 0) (.slice none 0 0))
  clear hbr
  go_wp2
  have hw9 := HW9.out
  have hp9 := HP.out
  generalize (((((World.setCell _ _ _).setCell _ _).setCell _ _).setCell _ _).setCell _ _) = wz at *
  obtain ⟨s0, s1, s2, s3, s4⟩ := b5 hw9
  exact bodyPost_ret (v := .agg #[.int .i64 0, .string (B q), .string ⟨#[]⟩, .int .i64 0, .slice none 0 0]) (by simp [results, Tryz.results88, go_sem, s0, s1, s2, s3, s4]) rfl hp9
 go_simp
 refine hK.out _ _ HSA.out (fun hH => ?_)
 clear hK K cbd
 try simp only [zz]
 generalize (wd.alloc (.cells #[.string (B q), .string (B da), .int .i64 0, .int .i64 0, .int .i64 o] TN)) = wa at *
 refine rY 4 fun K hK => ?_
 go_simp
 refine hK.out _ _ HSA.out (fun hH => ?_)
 clear hK K cba
 try simp only [zz]
 refine rY 13 fun K hK => ?_
 go_simp
 go_at_call 125
 refine HIN.out.mono ?_
 rintro e w7 ⟨v7, rfl, hc⟩
 have hp7 := KA.out.now.1.putN (Fp.refl Non wa) hc
 have hnB : ∀ k, k = w.heap.size → ¬ (Value.slice ao s.nodes.length cap).ownBlock = some k := fun k hk e => by have := HX.out.1.ltN _ e; omega
 have hbB : b ≠ w.heap.size := fun e => by have := HX.out.1.lt; omega
 have hS7 := yI (hc.fp.cell HSA.out.1 (fun e => hnB _ rfl e)) (hc.fp.cell HSA.out.2 (fun e => hnB _ rfl e))
 have HS7 := zI hS7
 have hfb : Fp (fun k => k = b) w7 (w7.setCell ⟨b, 0, none⟩ v7) := (Fp.refl (fun k => k = b) w7).setCell (p := ⟨b, 0, none⟩) (.inl rfl) v7
 have HS8 := zI (yI (hfb.cell hS7.1 (fun e => hbB e.symm)) (hfb.cell hS7.2 (fun e => hbB e.symm)))
 have cb7 := hc.fp.cell KA.out.now.1.c0 (fun e => KA.out.now.1.neN e)
 have zb7 : w7.frozen? ⟨b, 0, none⟩ = false := by have := hc.fp.heap KA.out.now.1.blk (fun e => KA.out.now.1.neN e); simp [World.frozen?, this]
 have HC7 := zI (Chd.of HX.out.1 KA.out.now.2.1 hp7.1 KA.out.now.2.2.1 (hp7.2.1.mono (fun k hk => hk.imp id .inl)) hp7.2.2 (fun k hk => .inl hk))
 have HP7 := zI hp7
 obtain ⟨a7, c7, rfl⟩ := hc.own.ns.shape
 obtain ⟨n7, hn7⟩ : ∃ n7, n7 = (ins s.nodes kq ⟨q, da, 0, 0, o⟩).length := ⟨_, rfl⟩
 rw [← hn7] at HS8 HC7 HP7 ⊢
 clear hc hp7 hnB hbB hS7 hfb hn7 HIN
 go_wp2_with fail
 refine hK.out _ _ HS7.out (fun hH => ?_)
 clear hK K
 try simp only [zz]
 refine tk 14 hH ?_
 refine tk 15 hH ?_
 refine rY 16 fun K hK => ?_
 go_simp
 refine hK.out _ _ HS8.out (fun hH => ?_)
 clear hK K hH cb7 zb7
 try simp only [zz]
 refine dn ?_
 generalize (w7.setCell ⟨b, 0, none⟩ _) = W8 at *
 obtain ⟨o0, o1, o2, o3, o4, o5, o6⟩ := boxP7 HC7.out.bp.op
 go_wp2_with fail
 have HS9 := zI (boxP7 ((HC7.out.bp.non (Fp.refl Non W8).drew).op)).2.1
 clear o0 o1 o2 o3 o4 o5 o6
 refine wp_region_held_drew (S := (fun w' => w'.cell? ⟨w.heap.size, 1, none⟩ = some (.string (B d)))) (by kernel_rfl) ?_ (fun hH => ?_)
 ·exact HS9.out
 refine tk 0 hH ?_
 refine tk 1 hH ?_
 refine tk 2 hH ?_
 refine tk 3 hH ?_
 refine tk 4 hH ?_
 refine tk 5 hH ?_
 refine rY 6 fun K hK => ?_
 go_simp
 go_at_call 127
 refine (HTU.out _ _ _ (HP7.out.1.non (Fp.refl Non W8).drew)).mono ?_
 rintro e w10 ⟨rfl, hf10⟩
 have hfx : Fp Non W8 w10 := ((Fp.refl Non W8).drew).then hf10
 have h10 := HP7.out.1.non hfx
 have hb10 := HC7.out.bp.non hfx
 have HS10 := zI (boxP7 hb10.op).2.1
 have hse := setTurn_c h10 d (tt + 1) HST.out.tasc (show s.turns.length ≤ 3900 from HX.out.2.2.2.2)
 have HSE := zI hse
 have HFX := zI (yI hfx hb10)
 have hw64 := HW64.out
 clear hf10 hfx h10 hb10 hse
 go_wp2_with fail
 refine hK.out _ _ HS10.out (fun hH => ?_)
 clear hK K
 try simp only [zz]
 refine tk 7 hH ?_
 clear hw64
 refine rY 8 fun K hK => ?_
 go_simp
 go_at_call 126
 try rw [HW64.out]
 refine HSE.out.mono ?_
 rintro e w11 ⟨rfl, hR⟩
 obtain ⟨vt', hsw, hnw⟩ := hR.ex
 have HS11 := zI (hR.fp.cell HS10.out (fun e => by
  rcases e with e | e
  ·have := HX.out.1.lt; simp only at e; omega
  have := HX.out.1.ltT _ e; simp only at this; omega))
 have HC := zI (Chd.of HX.out.1 KA.out.now.2.1 hsw KA.out.now.2.2.1 ((((HP7.out.2.1.mono (T := ownS b (.slice ao s.nodes.length cap) vt) (fun k hk => hk.imp id .inl)).same (HFX.out.1.any)).same (hR.fp.mono (fun k hk => hk.imp id .inr)))) HP7.out.2.2 (fun k hk => (hnw k hk).imp id (fun h => by have h1 := HP7.out.2.1.size; have h2 := HFX.out.1.size; omega)))
 clear hR hsw hnw
 go_wp2_with fail
 refine hK.out _ _ HS11.out (fun hH => ?_)
 clear hK K
 try simp only [zz]
 refine dn ?_
 have hbr := (HC.out).bp
 obtain ⟨r0, r1, r2, r3, r4⟩ := hbr.r
 have z0 := hbr.fz 0; have z1 := hbr.fz 1; have z2 := hbr.fz 2; have z3 := hbr.fz 3; have z4 := hbr.fz 4
 have HP := zI ((HC.out).done ⟨0, q, [], 0, []⟩ (.slice none 0 0) (Own.nil _ _) (fun e => by simp [Value.ownBlock] at e) (0) ((B q)) (⟨#[]⟩) (0) rfl rfl rfl rfl)
 have HW9 := zI (set5 hbr.res (.int .i64 0) (.string (B q)) (.string ⟨#[]⟩) (.int .i64 0) (.slice none 0 0))
 clear hbr
 go_wp2
 have hw9 := HW9.out
 have hp9 := HP.out
 generalize (((((World.setCell _ _ _).setCell _ _).setCell _ _).setCell _ _).setCell _ _) = wz at *
 obtain ⟨s0, s1, s2, s3, s4⟩ := b5 hw9
 exact bodyPost_ret (v := .agg #[.int .i64 0, .string (B q), .string ⟨#[]⟩, .int .i64 0, .slice none 0 0]) (by simp [results, Tryz.results88, go_sem, s0, s1, s2, s3, s4]) rfl hp9
end Go.Proofs.YtphoglepiegeiaaGreatDoor
namespace Go.Proofs.YtphoglepiegeiaaGreatDoor
set_option maxRecDepth 20000
open Go.RowKit Pm
attribute [local irreducible] wpStill
abbrev TST : TypeId := 25
abbrev effV : Value := .agg #[.nilFunc, .func (.func 87) #[] #[], .func (.func 88) #[] #[], .func (.func 89) #[] #[], .func (.func 90) #[] #[], .func (.func 91) #[] #[], .func (.func 92) #[] #[], .func (.func 93) #[] #[], .func (.func 94) #[] #[], .func (.func 95) #[] #[], .func (.func 96) #[] #[]]
set_option maxHeartbeats 1000000 in
theorem effectsP_c (w : World) : Calls Tryz.prog 57 #[] w fun e w' => e = .returned effV ∧ Fp Non w w' := by
 go_enter Tryz.func57, Tryz.ntmps57
 go_wp2
 exact bodyPost_ret (v := effV) (by simp [results, Tryz.results57, go_sem]) rfl ⟨rfl, (Fp.refl Non w).alloc _⟩
structure PickP (lo b : Nat) (vn vt : Value) (s : St) (x : Pt) (fk : Nat) (fc : Array Value) : Prop where
 ix : ∀ w, (Instr.index 89 effV (.int .i64 x.kind)).run Tryz.prog w = .ok (.func (.func fk) #[] fc) w
 en : Enters Tryz.prog fk
 call : ∀ w', Sw lo b vn vt s w' → Tab w' → Calls Tryz.prog fk (#[.pointer (some ⟨b, 0, none⟩), ptV x] ++ fc) w' (PmR lo b vn vt (doP s x).1 (doP s x).2 w')
theorem pickP (lo b : Nat) (vn vt : Value) (s : St) (x : Pt) (hst : StR s) (hm : mayP x = true) (hn : s.nodes.length ≤ 3900) (hnt : s.turns.length ≤ 3900) : ∃ fk fc, PickP lo b vn vt s x fk fc := by
 have hk := ((mayP_iff x).1 hm).1
 obtain ⟨k, d, p, da, v, o, t⟩ := x
 simp only at hk
 have hk' : k = 1 ∨ k = 2 ∨ k = 3 ∨ k = 4 ∨ k = 5 ∨ k = 6 ∨ k = 7 ∨ k = 8 ∨ k = 9 ∨ k = 10 := by omega
 rcases hk' with rfl | rfl | rfl | rfl | rfl | rfl | rfl | rfl | rfl | rfl
 ·exact ⟨_, #[], fun w => by kernel_rfl, enters_of Tryz.func87 (by kernel_rfl) rfl, fun w' h ht => guard_e h _ hst hm hn hnt ht rfl⟩
 ·exact ⟨_, #[], fun w => by kernel_rfl, enters_of Tryz.func88 (by kernel_rfl) rfl, fun w' h ht => put_e h _ hst hm hn hnt ht rfl⟩
 ·exact ⟨_, #[], fun w => by kernel_rfl, enters_of Tryz.func89 (by kernel_rfl) rfl, fun w' h ht => remove_e h _ hst hm hn hnt ht rfl⟩
 ·exact ⟨_, #[], fun w => by kernel_rfl, enters_of Tryz.func90 (by kernel_rfl) rfl, fun w' h ht => empty_e h _ hst hm hn hnt ht rfl⟩
 ·exact ⟨_, #[], fun w => by kernel_rfl, enters_of Tryz.func91 (by kernel_rfl) rfl, fun w' h ht => alter_e h _ hst hm hn hnt ht rfl⟩
 ·exact ⟨_, #[], fun w => by kernel_rfl, enters_of Tryz.func92 (by kernel_rfl) rfl, fun w' h ht => look_e h _ hst hm hn hnt ht rfl⟩
 ·exact ⟨_, #[], fun w => by kernel_rfl, enters_of Tryz.func93 (by kernel_rfl) rfl, fun w' h ht => read_e h _ hst hm hn hnt ht rfl⟩
 ·exact ⟨_, #[], fun w => by kernel_rfl, enters_of Tryz.func94 (by kernel_rfl) rfl, fun w' h ht => has_e h _ hst hm hn hnt ht rfl⟩
 ·exact ⟨_, #[], fun w => by kernel_rfl, enters_of Tryz.func95 (by kernel_rfl) rfl, fun w' h ht => names_e h _ hst hm hn hnt ht rfl⟩
 exact ⟨_, #[], fun w => by kernel_rfl, enters_of Tryz.func96 (by kernel_rfl) rfl, fun w' h ht => clear_e h _ hst hm hn hnt ht rfl⟩
structure DoR (w : World) (s' : St) (r : Res) (e : Ending) (w' : World) : Prop where
 ex : ∃ v' nv, e = .returned (.tuple #[v', .agg #[.int .i64 r.err, strV r.path, strV r.data, .int .i64 r.ver, nv]]) ∧ Sto w' v' s' ∧ Own w.heap.size w' nv r.names
 fp : Fp Non w w'
 mine : r.err = 0 → ∃ vn vt x, e = .returned (.tuple #[.agg #[vn, vt], x]) ∧ Ow w.heap.size w' vn s'.nodes ∧ OwT w.heap.size w' vt s'.turns
structure DoB (w : World) (vn0 vt0 : Value) (k : Int) (d p da : Bs) (v o : Int) (t : Bool) (W : World) : Prop where
 sb : W.heap[w.heap.size]? = some (.cells #[vn0, vt0] TST (0, 0))
 pb : W.heap[w.heap.size + 1]? = some (.cells #[.int .i64 k, .string (B d), .string (B p), .string (B da), .int .i64 v, .int .i64 o, .bool t] TP (0, 0))
 zs : W.heap[w.heap.size + 2]? = some (.cells #[.slice none 0 0, .slice none 0 0] TST (0, 0))
 zr : W.heap[w.heap.size + 3]? = some (.cells #[.int .i64 0, .string ⟨#[]⟩, .string ⟨#[]⟩, .int .i64 0, .slice none 0 0] TR (0, 0))
 sz : w.heap.size + 4 ≤ W.heap.size
 fp : Fp Non w W
theorem DoB.made (w : World) (vn0 vt0 : Value) (k : Int) (d p da : Bs) (v o : Int) (t : Bool) : DoB w vn0 vt0 k d p da v o t ((((w.alloc (.cells #[vn0, vt0] TST)).alloc (.cells #[.int .i64 k, .string (B d), .string (B p), .string (B da), .int .i64 v, .int .i64 o, .bool t] TP)).alloc (.cells #[.slice none 0 0, .slice none 0 0] TST)).alloc (.cells #[.int .i64 0, .string ⟨#[]⟩, .string ⟨#[]⟩, .int .i64 0, .slice none 0 0] TR)) := by
 have f1 := fp_alloc w (.cells #[vn0, vt0] TST)
 have f2 := fp_alloc (w.alloc (.cells #[vn0, vt0] TST)) (.cells #[.int .i64 k, .string (B d), .string (B p), .string (B da), .int .i64 v, .int .i64 o, .bool t] TP)
 have f3 := fp_alloc ((w.alloc (.cells #[vn0, vt0] TST)).alloc (.cells #[.int .i64 k, .string (B d), .string (B p), .string (B da), .int .i64 v, .int .i64 o, .bool t] TP)) (.cells #[.slice none 0 0, .slice none 0 0] TST)
 have f4 := fp_alloc (((w.alloc (.cells #[vn0, vt0] TST)).alloc (.cells #[.int .i64 k, .string (B d), .string (B p), .string (B da), .int .i64 v, .int .i64 o, .bool t] TP)).alloc (.cells #[.slice none 0 0, .slice none 0 0] TST)) (.cells #[.int .i64 0, .string ⟨#[]⟩, .string ⟨#[]⟩, .int .i64 0, .slice none 0 0] TR)
 refine ⟨((f2.then f3).then f4).heap (heap_alloc_new w _) id, ?_, ?_, ?_, by simp, ((f1.then f2).then f3).then f4⟩
 ·have := heap_alloc_new (w.alloc (.cells #[vn0, vt0] TST)) (.cells #[.int .i64 k, .string (B d), .string (B p), .string (B da), .int .i64 v, .int .i64 o, .bool t] TP)
  exact (f3.then f4).heap (by simpa using this) id
 ·have := heap_alloc_new ((w.alloc (.cells #[vn0, vt0] TST)).alloc (.cells #[.int .i64 k, .string (B d), .string (B p), .string (B da), .int .i64 v, .int .i64 o, .bool t] TP)) (.cells #[.slice none 0 0, .slice none 0 0] TST)
  exact f4.heap (by simpa using this) id
 have := heap_alloc_new (((w.alloc (.cells #[vn0, vt0] TST)).alloc (.cells #[.int .i64 k, .string (B d), .string (B p), .string (B da), .int .i64 v, .int .i64 o, .bool t] TP)).alloc (.cells #[.slice none 0 0, .slice none 0 0] TST)) (.cells #[.int .i64 0, .string ⟨#[]⟩, .string ⟨#[]⟩, .int .i64 0, .slice none 0 0] TR)
 simpa using this
theorem DoB.keep {w W W' : World} {vn0 vt0 : Value} {k : Int} {d p da : Bs} {v o : Int} {t : Bool} (h : DoB w vn0 vt0 k d p da v o t W) {S : Nat → Prop} (f : Fp S W W') (hS : ∀ j, S j → w.heap.size + 4 ≤ j) : DoB w vn0 vt0 k d p da v o t W' :=
 ⟨f.heap h.sb (fun e => by have := hS _ e; omega), f.heap h.pb (fun e => by have := hS _ e; omega), f.heap h.zs (fun e => by have := hS _ e; omega), f.heap h.zr (fun e => by have := hS _ e; omega), Nat.le_trans h.sz f.size, h.fp.trans f (fun j hj => .inr (by have := hS j hj; omega))⟩
theorem DoB.non {w W W' : World} {vn0 vt0 : Value} {k : Int} {d p da : Bs} {v o : Int} {t : Bool} (h : DoB w vn0 vt0 k d p da v o t W) (f : Fp Non W W') : DoB w vn0 vt0 k d p da v o t W' := h.keep f (fun _ h => h.elim)
theorem Kp.dob {w W : World} {vn0 vt0 : Value} {k : Int} {d p da : Bs} {v o : Int} {t : Bool} (h : DoB w vn0 vt0 k d p da v o t W) : Kp (fun W' => DoB w vn0 vt0 k d p da v o t W') W := fun W' f => h.non f
theorem boxP2 {w : World} {b : Nat} {T : TypeId} {c0 c1 : Value} (h : w.heap[b]? = some (.cells #[c0, c1] T (0, 0))) : w.cell? ⟨b, 0, none⟩ = some c0 ∧ w.cell? ⟨b, 1, none⟩ = some c1 :=
 ⟨by rw [cell_of_row _ _ _ _ _ _ h]; rfl, by rw [cell_of_row _ _ _ _ _ _ h]; rfl⟩
theorem Ow.lower {lo lo' : Nat} {w : World} {v : Value} {l : List Nd} (h : Ow lo' w v l) (k : lo ≤ lo') : Ow lo w v l := by
 refine ⟨h.1, ?_⟩
 rcases h.2 with hn | ⟨g, cap, cur, e, hg, rest⟩
 ·exact .inl hn
 exact .inr ⟨g, cap, cur, e, Nat.le_trans k hg, rest⟩
theorem OwT.lower {lo lo' : Nat} {w : World} {v : Value} {l : List Tu} (h : OwT lo' w v l) (k : lo ≤ lo') : OwT lo w v l := by
 refine ⟨h.1, ?_⟩
 rcases h.2 with hn | ⟨g, cap, cur, e, hg, rest⟩
 ·exact .inl hn
 exact .inr ⟨g, cap, cur, e, Nat.le_trans k hg, rest⟩
theorem Ow.ne {lo : Nat} {w : World} {v : Value} {l : List Nd} (h : Ow lo w v l) {q : Nat} {cs : Array Value} (hq : w.heap[q]? = some (.cells cs TR (0, 0))) : v.ownBlock ≠ some q := by
 rcases h.ways with ⟨rfl, _⟩ | ⟨G, cap, rfl, h1, _⟩
 ·simp [Value.ownBlock]
 intro e
 simp only [Value.ownBlock, Option.some.injEq] at e
 subst e
 obtain ⟨r, h2, _⟩ := h1.ex
 rw [h2] at hq
 injection hq with hq
 injection hq with _ hq _
 exact absurd hq (by decide)
theorem OwT.ne {lo : Nat} {w : World} {v : Value} {l : List Tu} (h : OwT lo w v l) {q : Nat} {cs : Array Value} (hq : w.heap[q]? = some (.cells cs TR (0, 0))) : v.ownBlock ≠ some q := by
 rcases h.ways with ⟨rfl, _⟩ | ⟨G, cap, rfl, h1, _⟩
 ·simp [Value.ownBlock]
 intro e
 simp only [Value.ownBlock, Option.some.injEq] at e
 subst e
 obtain ⟨r, h2, _⟩ := h1.ex
 rw [h2] at hq
 injection hq with hq
 injection hq with _ hq _
 exact absurd hq (by decide)
structure DoM (w : World) (vn0 vt0 : Value) (k : Int) (d p da : Bs) (v o : Int) (t : Bool) (b : Nat) (s' : St) (r : Res) (q : Nat) (nv : Value) (W : World) : Prop where
 ex : ∃ vn' vt', Sw (w.heap.size + 4) b vn' vt' s' W
 own : Own (w.heap.size + 4) W nv r.names
 bx : DoB w vn0 vt0 k d p da v o t W
 q4 : w.heap.size + 4 ≤ q
 row : W.heap[q]? = some (.cells #[.int .i64 r.err, .string (B r.path), .string (B r.data), .int .i64 r.ver, nv] TR (0, 0))
theorem two_set {w : World} {b : Nat} {T : TypeId} {a0 a1 : Value} (h : w.heap[b]? = some (.cells #[a0, a1] T (0, 0))) (v0 v1 : Value) :
  ((w.setCell ⟨b, 0, none⟩ v0).setCell ⟨b, 1, none⟩ v1).heap[b]? = some (.cells #[v0, v1] T (0, 0)) := heap_setCell_same _ b 1 _ T v1 (heap_setCell_same w b 0 _ T v0 h)
theorem DoM.of {w u u2 u3 : World} {vn0 vt0 vn1 vt1 : Value} {k : Int} {d p da : Bs} {v o : Int} {t : Bool} {b : Nat} {s s' : St} {r : Res} {q : Nat} {nv vn' vt' : Value}
  (h : Sw (w.heap.size + 4) b vn1 vt1 s u) (hB : DoB w vn0 vt0 k d p da v o t u) (hs : Sw (w.heap.size + 4) b vn' vt' s' u2) (ho : Own u.heap.size u2 nv r.names) (f : Fp (ownS b vn1 vt1) u u2) (f3 : Fp Non u2 u3)
  (hq : u3.heap[q]? = some (.cells #[.int .i64 0, .string ⟨#[]⟩, .string ⟨#[]⟩, .int .i64 0, .slice none 0 0] TR (0, 0))) (hq4 : w.heap.size + 4 ≤ q) (hnq : nv.ownBlock ≠ some q) :
  DoM w vn0 vt0 k d p da v o t b s' r q nv (((((u3.setCell ⟨q, 0, none⟩ (.int .i64 r.err)).setCell ⟨q, 1, none⟩ (.string (B r.path))).setCell ⟨q, 2, none⟩ (.string (B r.data))).setCell ⟨q, 3, none⟩ (.int .i64 r.ver)).setCell ⟨q, 4, none⟩ nv) := by
 have fk := fp5 (S := fun j => j = q) (Fp.refl _ u3) (b := q) (.inl rfl) (.int .i64 r.err) (.string (B r.path)) (.string (B r.data)) (.int .i64 r.ver) nv
 have hs3 := hs.non f3
 have hown : ∀ j, ownS b vn1 vt1 j → w.heap.size + 4 ≤ j := fun j hj => by
  rcases hj with e | e | e
  ·rw [e]; exact h.low
  ·exact (World.ownsRow.lt h.own j e).1
  exact (World.ownsRow.lt h.ownT j e).1
 refine ⟨⟨vn', vt', hs3.keep fk (fun e => ?_) (fun j hj e => hs3.own.ne hq (by rw [hj, e])) (fun j hj e => hs3.ownT.ne hq (by rw [hj, e]))⟩, ?_, ?_, hq4, set5 hq _ _ _ _ _⟩
 ·have h1 := hs3.blk
  rw [e, hq] at h1
  injection h1 with h1
  injection h1 with _ h1 _
  exact absurd h1 (by decide)
 ·exact ⟨fk.owns ((ho.low hB.sz).grown' f3).1 (fun j hj e => hnq (by rw [hj, e])), ho.2⟩
 exact ((hB.keep f hown).non f3).keep fk (fun j hj => by rw [hj]; exact hq4)
theorem do_end {w W : World} {vn0 vt0 : Value} {k : Int} {d p da : Bs} {v o : Int} {t : Bool} (h : DoB w vn0 vt0 k d p da v o t W) (a0 a1 v0 v1 v2 v3 v4 : Value) :
  (((((((W.setCell ⟨w.heap.size + 2, 0, none⟩ a0).setCell ⟨w.heap.size + 2, 1, none⟩ a1).setCell ⟨w.heap.size + 3, 0, none⟩ v0).setCell ⟨w.heap.size + 3, 1, none⟩ v1).setCell ⟨w.heap.size + 3, 2, none⟩ v2).setCell ⟨w.heap.size + 3, 3, none⟩ v3).setCell ⟨w.heap.size + 3, 4, none⟩ v4).heap[w.heap.size + 2]? = some (.cells #[a0, a1] TST (0, 0)) ∧
  (((((((W.setCell ⟨w.heap.size + 2, 0, none⟩ a0).setCell ⟨w.heap.size + 2, 1, none⟩ a1).setCell ⟨w.heap.size + 3, 0, none⟩ v0).setCell ⟨w.heap.size + 3, 1, none⟩ v1).setCell ⟨w.heap.size + 3, 2, none⟩ v2).setCell ⟨w.heap.size + 3, 3, none⟩ v3).setCell ⟨w.heap.size + 3, 4, none⟩ v4).heap[w.heap.size + 3]? = some (.cells #[v0, v1, v2, v3, v4] TR (0, 0)) ∧
  Fp Non w (((((((W.setCell ⟨w.heap.size + 2, 0, none⟩ a0).setCell ⟨w.heap.size + 2, 1, none⟩ a1).setCell ⟨w.heap.size + 3, 0, none⟩ v0).setCell ⟨w.heap.size + 3, 1, none⟩ v1).setCell ⟨w.heap.size + 3, 2, none⟩ v2).setCell ⟨w.heap.size + 3, 3, none⟩ v3).setCell ⟨w.heap.size + 3, 4, none⟩ v4) ∧
  Fp (fun j => j = w.heap.size + 2 ∨ j = w.heap.size + 3) W (((((((W.setCell ⟨w.heap.size + 2, 0, none⟩ a0).setCell ⟨w.heap.size + 2, 1, none⟩ a1).setCell ⟨w.heap.size + 3, 0, none⟩ v0).setCell ⟨w.heap.size + 3, 1, none⟩ v1).setCell ⟨w.heap.size + 3, 2, none⟩ v2).setCell ⟨w.heap.size + 3, 3, none⟩ v3).setCell ⟨w.heap.size + 3, 4, none⟩ v4) := by
 have f2 : Fp (fun j => j = w.heap.size + 2) W ((W.setCell ⟨w.heap.size + 2, 0, none⟩ a0).setCell ⟨w.heap.size + 2, 1, none⟩ a1) := ((Fp.refl (fun j => j = w.heap.size + 2) W).setCell (p := ⟨w.heap.size + 2, 0, none⟩) (.inl rfl) a0).setCell (p := ⟨w.heap.size + 2, 1, none⟩) (.inl rfl) a1
 have f5 := fp5 (S := fun j => j = w.heap.size + 3) (Fp.refl _ ((W.setCell ⟨w.heap.size + 2, 0, none⟩ a0).setCell ⟨w.heap.size + 2, 1, none⟩ a1)) (b := w.heap.size + 3) (.inl rfl) v0 v1 v2 v3 v4
 have fall := (f2.mono (T := fun j => j = w.heap.size + 2 ∨ j = w.heap.size + 3) (fun j hj => .inl hj)).same (f5.mono (fun j hj => .inr hj))
 refine ⟨f5.heap (two_set h.zs a0 a1) (fun e => by omega), set5 (f2.heap h.zr (fun e => by omega)) v0 v1 v2 v3 v4, h.fp.trans fall (fun j hj => .inr (by omega)), fall⟩
theorem frozen_at {w : World} {b : Nat} {cs : Array Value} {T : TypeId} (h : w.heap[b]? = some (.cells cs T (0, 0))) (j : Nat) : w.frozen? ⟨b, j, none⟩ = false := by
 unfold World.frozen?; simp only [h]; simp
set_option maxHeartbeats 8000000 in
theorem Do_no (vn0 vt0 : Value) (s : St) (x : Pt) (w : World) (hv : Sto w (.agg #[vn0, vt0]) s) (hs : Sp s.nodes) (hst : ∀ t ∈ s.turns, t.dir.length ≤ 1000000) (hn : s.nodes.length ≤ 3900) (hnt : s.turns.length ≤ 3900) (hp : x.path.length ≤ 1000000) (hno : ¬ (rightS s = true ∧ mayP x = true)) :
  Calls Tryz.prog 17 #[.agg #[vn0, vt0], ptV x] w (DoR w ⟨[], []⟩ (.bad 1)) := by
 have hrc := fun W (f : Fp Non w W) => rightP_c (.agg #[vn0, vt0]) s W (hv.non f) hs (by omega) hst (by omega)
 have hmc := fun W => mayP_c x W hp
 obtain ⟨br, hbr⟩ : ∃ br, rightS s = br := ⟨_, rfl⟩
 obtain ⟨bm, hbm⟩ : ∃ bm, mayP x = bm := ⟨_, rfl⟩
 rw [hbr] at hrc
 rw [hbm] at hmc
 rw [hbr, hbm] at hno
 obtain ⟨k, d, p, da, v, o, t⟩ := x
 have hpt : ptV ⟨k, d, p, da, v, o, t⟩ = .agg #[.int .i64 k, .string (B d), .string (B p), .string (B da), .int .i64 v, .int .i64 o, .bool t] := rfl
 rw [hpt] at hmc ⊢
 have K0 := zI (Kp.dob (DoB.made w vn0 vt0 k d p da v o t))
 have HR := zI hrc
 have HM := zI hmc
 clear hrc hmc hv hs hst hn hnt hp hbr hbm hpt
 cases br with
 | false =>
  clear hno
  go_enter Tryz.func17, Tryz.ntmps17
  generalize hW0 : ((((w.alloc (.cells #[vn0, vt0] TST)).alloc (.cells #[.int .i64 k, .string (B d), .string (B p), .string (B da), .int .i64 v, .int .i64 o, .bool t] TP)).alloc (.cells #[.slice none 0 0, .slice none 0 0] TST)).alloc (.cells #[.int .i64 0, .string ⟨#[]⟩, .string ⟨#[]⟩, .int .i64 0, .slice none 0 0] TR)) = W0 at *
  obtain ⟨s0, s1⟩ := boxP2 K0.out.now.sb
  go_wp2_with fail
  clear hW0
  refine (HR.out _ K0.out.now.fp).mono ?_
  rintro e w1 ⟨rfl, hf⟩
  have K1 := zI (K0.out.later hf)
  clear hf s0 s1
  go_wp2_with fail
  refine (refusedP_c 1 _).mono ?_
  rintro e w9 ⟨rfl, hf⟩
  have K9 := zI (K1.out.later hf)
  clear hf
  unfold badV
  have hb := K9.out.now
  obtain ⟨y0, y1⟩ := boxP2 hb.zs
  have u0 := frozen_at hb.zs 0; have u1 := frozen_at hb.zs 1
  obtain ⟨r0, r1, r2, r3, r4⟩ := box5 hb.zr
  have z0 := frozen_at hb.zr 0; have z1 := frozen_at hb.zr 1; have z2 := frozen_at hb.zr 2; have z3 := frozen_at hb.zr 3; have z4 := frozen_at hb.zr 4
  have HD := zI (do_end hb (.slice none 0 0) (.slice none 0 0) (.int .i64 1) (.string ⟨#[]⟩) (.string ⟨#[]⟩) (.int .i64 0) (.slice none 0 0))
  clear hb
  go_wp2
  have hd := HD.out
  generalize (((((World.setCell _ _ _).setCell _ _).setCell _ _).setCell _ _).setCell _ _) = wz at *
  obtain ⟨t0, t1⟩ := boxP2 hd.1
  obtain ⟨s0, s1, s2, s3, s4⟩ := box5 hd.2.1
  exact bodyPost_ret (v := .tuple #[.agg #[.slice none 0 0, .slice none 0 0], .agg #[.int .i64 1, .string ⟨#[]⟩, .string ⟨#[]⟩, .int .i64 0, .slice none 0 0]]) (by simp [results, Tryz.results17, go_sem, t0, t1, s0, s1, s2, s3, s4]) rfl ⟨⟨_, _, rfl, ⟨_, _, rfl, Ns.nil _, Ts.nil _⟩, Own.nil _ _⟩, hd.2.2.1, fun h => absurd h (by decide)⟩
 | true => ?_
 obtain rfl : bm = false := by
  cases bm with
  | false => rfl
  | true => exact absurd ⟨rfl, rfl⟩ hno
 clear hno
 go_enter Tryz.func17, Tryz.ntmps17
 generalize hW0 : ((((w.alloc (.cells #[vn0, vt0] TST)).alloc (.cells #[.int .i64 k, .string (B d), .string (B p), .string (B da), .int .i64 v, .int .i64 o, .bool t] TP)).alloc (.cells #[.slice none 0 0, .slice none 0 0] TST)).alloc (.cells #[.int .i64 0, .string ⟨#[]⟩, .string ⟨#[]⟩, .int .i64 0, .slice none 0 0] TR)) = W0 at *
 obtain ⟨s0, s1⟩ := boxP2 K0.out.now.sb
 go_wp2_with fail
 clear hW0
 refine (HR.out _ K0.out.now.fp).mono ?_
 rintro e w1 ⟨rfl, hf⟩
 have K1 := zI (K0.out.later hf)
 clear hf s0 s1
 obtain ⟨o0, o1, o2, o3, o4, o5, o6⟩ := boxP7 K1.out.now.pb
 go_wp2_with fail
 refine (HM.out _).mono ?_
 rintro e w2 ⟨rfl, hf⟩
 have K2 := zI (K1.out.later hf)
 clear hf o0 o1 o2 o3 o4 o5 o6
 go_wp2_with fail
 refine (refusedP_c 1 _).mono ?_
 rintro e w9 ⟨rfl, hf⟩
 have K9 := zI (K2.out.later hf)
 clear hf
 unfold badV
 have hb := K9.out.now
 obtain ⟨y0, y1⟩ := boxP2 hb.zs
 have u0 := frozen_at hb.zs 0; have u1 := frozen_at hb.zs 1
 obtain ⟨r0, r1, r2, r3, r4⟩ := box5 hb.zr
 have z0 := frozen_at hb.zr 0; have z1 := frozen_at hb.zr 1; have z2 := frozen_at hb.zr 2; have z3 := frozen_at hb.zr 3; have z4 := frozen_at hb.zr 4
 have HD := zI (do_end hb (.slice none 0 0) (.slice none 0 0) (.int .i64 1) (.string ⟨#[]⟩) (.string ⟨#[]⟩) (.int .i64 0) (.slice none 0 0))
 clear hb
 go_wp2
 have hd := HD.out
 generalize (((((World.setCell _ _ _).setCell _ _).setCell _ _).setCell _ _).setCell _ _) = wz at *
 obtain ⟨t0, t1⟩ := boxP2 hd.1
 obtain ⟨s0, s1, s2, s3, s4⟩ := box5 hd.2.1
 exact bodyPost_ret (v := .tuple #[.agg #[.slice none 0 0, .slice none 0 0], .agg #[.int .i64 1, .string ⟨#[]⟩, .string ⟨#[]⟩, .int .i64 0, .slice none 0 0]]) (by simp [results, Tryz.results17, go_sem, t0, t1, s0, s1, s2, s3, s4]) rfl ⟨⟨_, _, rfl, ⟨_, _, rfl, Ns.nil _, Ts.nil _⟩, Own.nil _ _⟩, hd.2.2.1, fun h => absurd h (by decide)⟩
end Go.Proofs.YtphoglepiegeiaaGreatDoor
