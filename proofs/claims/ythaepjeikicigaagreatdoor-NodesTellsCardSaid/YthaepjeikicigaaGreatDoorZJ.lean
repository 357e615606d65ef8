/- Texts of this proof, merged. -/
import Derived.Test.YthaepjeikicigaaGreatDoorZF
/- May, kind by kind. -/
namespace Go.Proofs.YthaepjeikicigaaGreatDoor
set_option linter.unusedSimpArgs false
set_option linter.unusedVariables false
set_option maxRecDepth 20000
set_option linter.unusedVariables false
set_option linter.unusedSimpArgs false
open Go.RowKit Pm
set_option maxHeartbeats 8000000 in
theorem May_3 (o : Opn) (w : World) (hp : (split o.path).isSome = true) (hl : o.path.length ≤ 1000000) (hk : o.kind = 3) :
    Calls Tryz.prog 13 #[opV o] w fun e w' => e = .returned (.bool (may o)) ∧ Fp Non w w' := by
  obtain ⟨k, p, d, v, ow, t⟩ := o
  obtain rfl : k = 3 := hk
  unfold opV strV
  have hr := fun w => Right_g p w (sz_of hl (by omega))
  obtain ⟨m, hm⟩ : ∃ m, may ⟨3, p, d, v, ow, t⟩ = m := ⟨_, rfl⟩
  rw [hm]
  rw [show (split p).isSome = true from hp] at hr
  obtain ⟨bv, h1⟩ : ∃ r, decide ((-1 : Int) ≤ v ∧ v ≤ 281474976710656) = r := ⟨_, rfl⟩
  obtain ⟨bo, h2⟩ : ∃ r, decide ((0 : Int) ≤ ow ∧ ow ≤ 1099511627776) = r := ⟨_, rfl⟩
  obtain ⟨br, h3⟩ : ∃ r, (p == [47]) = r := ⟨_, rfl⟩
  obtain ⟨bl, h4⟩ : ∃ r, decide (d.length ≤ 256) = r := ⟨_, rfl⟩
  obtain ⟨bz, h5⟩ : ∃ r, (ow == 0) = r := ⟨_, rfl⟩
  have HV := Lib.hid (fun w => within_d v (-1) 281474976710656 w bv h1)
  have HO := Lib.hid (fun w => within_d ow 0 1099511627776 w bo h2)
  have HM := Lib.hid hm
  have HR := Lib.hid hr
  have HFI := Lib.hid fields_c
  have HBX := Lib.hid (fun w => heap_alloc_new w (.cells #[.int .i64 3, .string (B p), .string (B d), .int .i64 v, .int .i64 ow, .bool t] TO_))
  have HQ := Lib.hid (And.intro hp (And.intro h1 (And.intro h2 (And.intro h3 (And.intro h4 h5)))))
  have q4 : (((d.length : Int) ≤ 256) = (bl = true)) := by rw [← h4]; simp; omega
  have q5 : ((d.length ≤ 256) = (bl = true)) := by rw [← h4]; simp
  clear hm hr h1 h2 hp hl h3 h5 h4
  have hix := fields_at3
  go_enter Tryz.func13, Tryz.ntmps13
  go_wp2_with fail
  refine (HR.out _).mono ?_
  rintro e w1 ⟨rfl, g1⟩
  have hb1 := (Fp.of_below g1).heap (HBX.out w) (fun h => h)
  have HF1 := Lib.hid (((Fp.refl Non w).alloc _).then g1.fp)
  have HB1 := Lib.hid hb1
  clear g1 hb1
  go_wp2_with fail
  refine wp_region_held_drew (S := (fun w' => w'.cell? ⟨w.heap.size, 0, none⟩ = some ((.int .i64 3)) ∧ w'.cell? ⟨w.heap.size, 1, none⟩ = some (.string (B p)) ∧ w'.cell? ⟨w.heap.size, 2, none⟩ = some (.string (B d)) ∧ w'.cell? ⟨w.heap.size, 3, none⟩ = some (.int .i64 v) ∧ w'.cell? ⟨w.heap.size, 4, none⟩ = some (.int .i64 ow) ∧ w'.cell? ⟨w.heap.size, 5, none⟩ = some (.bool t))) (by kernel_rfl) ?_ (fun hHeld => ?_)
  · exact box6 ((Fp.refl Non w1).drew.heap HB1.out (fun h => h))
  refine wpAnyH_take (i := 1) (oi := ?oi116) (v := ?vi116) ?h116 (by kernel_rfl) (by kernel_rfl) (by kernel_rfl) ?q116 (Or.inl ⟨?w116, ?y116⟩) hHeld ?r116
  case h116 => simp only [zA, zB, zC] <;> exact rfl
  case q116 => exact fun _ _ _ h => h
  case w116 => rfl
  case y116 =>
    intro w hSw
    (try dsimp only at hSw)
    obtain ⟨s0, s1, s2, s3, s4, s5⟩ := hSw
    go_simp
    try with_reducible rfl
  try simp only [zP, zN, zS, zT, zU]
  refine wpAnyH_take (i := 2) (oi := ?oi117) (v := ?vi117) ?h117 (by kernel_rfl) (by kernel_rfl) (by kernel_rfl) ?q117 (Or.inl ⟨?w117, ?y117⟩) hHeld ?r117
  case h117 => simp only [zA, zB, zC] <;> exact rfl
  case q117 => exact fun _ _ _ h => h
  case w117 => rfl
  case y117 =>
    intro w hSw
    (try dsimp only at hSw)
    obtain ⟨s0, s1, s2, s3, s4, s5⟩ := hSw
    go_simp
    try with_reducible rfl
  try simp only [zP, zN, zS, zT, zU]
  refine wpAnyH_ready (rs := [0]) (by kernel_rfl) (by simp) ?_
  refine AllReadyH.cons (o := ?ob118) ?hb118 (fun K hK => ?_) AllReadyH.nil
  case hb118 => simp only [zA, zB, zC] <;> exact rfl
  go_simp
  go_at_call 32
  refine (HFI.out _).mono ?_
  rintro e w2 ⟨rfl, f2⟩
  have hb2 := f2.heap (k := w.heap.size) ((Fp.refl Non w1).drew.heap HB1.out (fun h => h)) (fun h => h)
  have HB2 := Lib.hid hb2
  have HS2 := Lib.hid (box6 hb2)
  have HF2 := Lib.hid (HF1.out.then (((Fp.refl Non w1).drew).then f2))
  clear f2 hb2
  go_wp2_with fail
  refine hK.out _ _ HS2.out (fun hHeld => ?_)
  clear hK K
  try simp only [zP, zN, zS, zT, zU]
  refine wpAnyH_take (i := 3) (oi := ?oi119) (v := ?vi119) ?h119 (by kernel_rfl) (by kernel_rfl) (by kernel_rfl) ?q119 (Or.inl ⟨?w119, ?y119⟩) hHeld ?r119
  case h119 => simp only [zA, zB, zC] <;> exact rfl
  case q119 => exact fun _ _ _ h => h
  case w119 => rfl
  case y119 =>
    intro w hSw
    (try dsimp only at hSw)
    obtain ⟨s0, s1, s2, s3, s4, s5⟩ := hSw
    go_simp
    try with_reducible rfl
  try simp only [zP, zN, zS, zT, zU]
  refine wpAnyH_take (i := 4) (oi := ?oi120) (v := ?vi120) ?h120 (by kernel_rfl) (by kernel_rfl) (by kernel_rfl) ?q120 (Or.inl ⟨?w120, ?y120⟩) hHeld ?r120
  case h120 => simp only [zA, zB, zC] <;> exact rfl
  case q120 => exact fun _ _ _ h => h
  case w120 => rfl
  case y120 =>
    intro w hSw
    (try dsimp only at hSw)
    obtain ⟨s0, s1, s2, s3, s4, s5⟩ := hSw
    go_simp
    try with_reducible rfl
  try simp only [zP, zN, zS, zT, zU]
  refine wpAnyH_done (by kernel_rfl) ?_ _
  have s0 := HS2.out.1; have s1 := HS2.out.2.1; have s2 := HS2.out.2.2.1; have s3 := HS2.out.2.2.2.1; have s4 := HS2.out.2.2.2.2.1; have s5 := HS2.out.2.2.2.2.2
  have fz : ∀ j, w2.frozen? ⟨w.heap.size, j, none⟩ = false := fun j => by have := HB2.out; simp [World.frozen?, this]
  have z0 := fz 0; have z1 := fz 1; have z2 := fz 2; have z3 := fz 3; have z4 := fz 4; have z5 := fz 5
  clear fz
  have heq := eq_op
  clear hix
  cases bl <;> cases bv
  all_goals simp only [Bool.false_eq_true, eq_self] at q4 q5
  all_goals
    go_wp2_with (first
      | (go_at_call_of 33 v; refine (HV.out _).mono ?_; rintro e w1 ⟨rfl, rfl⟩)
      | (go_at_call_of 33 ow; refine (HO.out _).mono ?_; rintro e w1 ⟨rfl, rfl⟩))
    all_goals
      go_ret
      refine ⟨ret_bool ?_, ?_⟩
      · rw [← HM.out]; unfold may; obtain ⟨g0, g1, g2, g3, g4, g5⟩ := HQ.out; clear HV HO HM HR HFI HBX HF1 HB1 HB2 HS2 HF2; by_cases hd : d = [] <;> by_cases hv0 : v = 0 <;> by_cases ho0 : ow = 0 <;> cases t <;> simp_all <;> omega
      · first | exact HF2.out | (repeat (first | exact HF2.out | refine Fp.setCell ?_ (.inr (Nat.le_refl _)) _))
set_option maxHeartbeats 8000000 in
theorem May_4 (o : Opn) (w : World) (hp : (split o.path).isSome = true) (hl : o.path.length ≤ 1000000) (hk : o.kind = 4) :
    Calls Tryz.prog 13 #[opV o] w fun e w' => e = .returned (.bool (may o)) ∧ Fp Non w w' := by
  obtain ⟨k, p, d, v, ow, t⟩ := o
  obtain rfl : k = 4 := hk
  unfold opV strV
  have hr := fun w => Right_g p w (sz_of hl (by omega))
  obtain ⟨m, hm⟩ : ∃ m, may ⟨4, p, d, v, ow, t⟩ = m := ⟨_, rfl⟩
  rw [hm]
  rw [show (split p).isSome = true from hp] at hr
  obtain ⟨bv, h1⟩ : ∃ r, decide ((-1 : Int) ≤ v ∧ v ≤ 281474976710656) = r := ⟨_, rfl⟩
  obtain ⟨bo, h2⟩ : ∃ r, decide ((0 : Int) ≤ ow ∧ ow ≤ 1099511627776) = r := ⟨_, rfl⟩
  obtain ⟨br, h3⟩ : ∃ r, (p == [47]) = r := ⟨_, rfl⟩
  obtain ⟨bl, h4⟩ : ∃ r, decide (d.length ≤ 256) = r := ⟨_, rfl⟩
  obtain ⟨bz, h5⟩ : ∃ r, (ow == 0) = r := ⟨_, rfl⟩
  have HV := Lib.hid (fun w => within_d v (-1) 281474976710656 w bv h1)
  have HO := Lib.hid (fun w => within_d ow 0 1099511627776 w bo h2)
  have HM := Lib.hid hm
  have HR := Lib.hid hr
  have HFI := Lib.hid fields_c
  have HBX := Lib.hid (fun w => heap_alloc_new w (.cells #[.int .i64 4, .string (B p), .string (B d), .int .i64 v, .int .i64 ow, .bool t] TO_))
  have HQ := Lib.hid (And.intro hp (And.intro h1 (And.intro h2 (And.intro h3 (And.intro h4 h5)))))
  clear hm hr h1 h2 hp hl h3 h5 h4
  have hix := fields_at4
  go_enter Tryz.func13, Tryz.ntmps13
  go_wp2_with fail
  refine (HR.out _).mono ?_
  rintro e w1 ⟨rfl, g1⟩
  have hb1 := (Fp.of_below g1).heap (HBX.out w) (fun h => h)
  have HF1 := Lib.hid (((Fp.refl Non w).alloc _).then g1.fp)
  have HB1 := Lib.hid hb1
  clear g1 hb1
  go_wp2_with fail
  refine wp_region_held_drew (S := (fun w' => w'.cell? ⟨w.heap.size, 0, none⟩ = some ((.int .i64 4)) ∧ w'.cell? ⟨w.heap.size, 1, none⟩ = some (.string (B p)) ∧ w'.cell? ⟨w.heap.size, 2, none⟩ = some (.string (B d)) ∧ w'.cell? ⟨w.heap.size, 3, none⟩ = some (.int .i64 v) ∧ w'.cell? ⟨w.heap.size, 4, none⟩ = some (.int .i64 ow) ∧ w'.cell? ⟨w.heap.size, 5, none⟩ = some (.bool t))) (by kernel_rfl) ?_ (fun hHeld => ?_)
  · exact box6 ((Fp.refl Non w1).drew.heap HB1.out (fun h => h))
  refine wpAnyH_take (i := 1) (oi := ?oi121) (v := ?vi121) ?h121 (by kernel_rfl) (by kernel_rfl) (by kernel_rfl) ?q121 (Or.inl ⟨?w121, ?y121⟩) hHeld ?r121
  case h121 => simp only [zA, zB, zC] <;> exact rfl
  case q121 => exact fun _ _ _ h => h
  case w121 => rfl
  case y121 =>
    intro w hSw
    (try dsimp only at hSw)
    obtain ⟨s0, s1, s2, s3, s4, s5⟩ := hSw
    go_simp
    try with_reducible rfl
  try simp only [zP, zN, zS, zT, zU]
  refine wpAnyH_take (i := 2) (oi := ?oi122) (v := ?vi122) ?h122 (by kernel_rfl) (by kernel_rfl) (by kernel_rfl) ?q122 (Or.inl ⟨?w122, ?y122⟩) hHeld ?r122
  case h122 => simp only [zA, zB, zC] <;> exact rfl
  case q122 => exact fun _ _ _ h => h
  case w122 => rfl
  case y122 =>
    intro w hSw
    (try dsimp only at hSw)
    obtain ⟨s0, s1, s2, s3, s4, s5⟩ := hSw
    go_simp
    try with_reducible rfl
  try simp only [zP, zN, zS, zT, zU]
  refine wpAnyH_ready (rs := [0]) (by kernel_rfl) (by simp) ?_
  refine AllReadyH.cons (o := ?ob123) ?hb123 (fun K hK => ?_) AllReadyH.nil
  case hb123 => simp only [zA, zB, zC] <;> exact rfl
  go_simp
  go_at_call 32
  refine (HFI.out _).mono ?_
  rintro e w2 ⟨rfl, f2⟩
  have hb2 := f2.heap (k := w.heap.size) ((Fp.refl Non w1).drew.heap HB1.out (fun h => h)) (fun h => h)
  have HB2 := Lib.hid hb2
  have HS2 := Lib.hid (box6 hb2)
  have HF2 := Lib.hid (HF1.out.then (((Fp.refl Non w1).drew).then f2))
  clear f2 hb2
  go_wp2_with fail
  refine hK.out _ _ HS2.out (fun hHeld => ?_)
  clear hK K
  try simp only [zP, zN, zS, zT, zU]
  refine wpAnyH_take (i := 3) (oi := ?oi124) (v := ?vi124) ?h124 (by kernel_rfl) (by kernel_rfl) (by kernel_rfl) ?q124 (Or.inl ⟨?w124, ?y124⟩) hHeld ?r124
  case h124 => simp only [zA, zB, zC] <;> exact rfl
  case q124 => exact fun _ _ _ h => h
  case w124 => rfl
  case y124 =>
    intro w hSw
    (try dsimp only at hSw)
    obtain ⟨s0, s1, s2, s3, s4, s5⟩ := hSw
    go_simp
    try with_reducible rfl
  try simp only [zP, zN, zS, zT, zU]
  refine wpAnyH_take (i := 4) (oi := ?oi125) (v := ?vi125) ?h125 (by kernel_rfl) (by kernel_rfl) (by kernel_rfl) ?q125 (Or.inl ⟨?w125, ?y125⟩) hHeld ?r125
  case h125 => simp only [zA, zB, zC] <;> exact rfl
  case q125 => exact fun _ _ _ h => h
  case w125 => rfl
  case y125 =>
    intro w hSw
    (try dsimp only at hSw)
    obtain ⟨s0, s1, s2, s3, s4, s5⟩ := hSw
    go_simp
    try with_reducible rfl
  try simp only [zP, zN, zS, zT, zU]
  refine wpAnyH_done (by kernel_rfl) ?_ _
  have s0 := HS2.out.1; have s1 := HS2.out.2.1; have s2 := HS2.out.2.2.1; have s3 := HS2.out.2.2.2.1; have s4 := HS2.out.2.2.2.2.1; have s5 := HS2.out.2.2.2.2.2
  have fz : ∀ j, w2.frozen? ⟨w.heap.size, j, none⟩ = false := fun j => by have := HB2.out; simp [World.frozen?, this]
  have z0 := fz 0; have z1 := fz 1; have z2 := fz 2; have z3 := fz 3; have z4 := fz 4; have z5 := fz 5
  clear fz
  have heq := eq_op
  clear hix
  cases bv
  all_goals
    go_wp2_with (first
      | (go_at_call_of 33 v; refine (HV.out _).mono ?_; rintro e w1 ⟨rfl, rfl⟩)
      | (go_at_call_of 33 ow; refine (HO.out _).mono ?_; rintro e w1 ⟨rfl, rfl⟩))
    all_goals
      go_ret
      refine ⟨ret_bool ?_, ?_⟩
      · rw [← HM.out]; unfold may; obtain ⟨g0, g1, g2, g3, g4, g5⟩ := HQ.out; clear HV HO HM HR HFI HBX HF1 HB1 HB2 HS2 HF2; by_cases hd : d = [] <;> by_cases hv0 : v = 0 <;> by_cases ho0 : ow = 0 <;> cases t <;> simp_all <;> omega
      · first | exact HF2.out | (repeat (first | exact HF2.out | refine Fp.setCell ?_ (.inr (Nat.le_refl _)) _))
set_option maxHeartbeats 8000000 in
theorem May_5 (o : Opn) (w : World) (hp : (split o.path).isSome = true) (hl : o.path.length ≤ 1000000) (hk : o.kind = 5) :
    Calls Tryz.prog 13 #[opV o] w fun e w' => e = .returned (.bool (may o)) ∧ Fp Non w w' := by
  obtain ⟨k, p, d, v, ow, t⟩ := o
  obtain rfl : k = 5 := hk
  unfold opV strV
  have hr := fun w => Right_g p w (sz_of hl (by omega))
  obtain ⟨m, hm⟩ : ∃ m, may ⟨5, p, d, v, ow, t⟩ = m := ⟨_, rfl⟩
  rw [hm]
  rw [show (split p).isSome = true from hp] at hr
  obtain ⟨bv, h1⟩ : ∃ r, decide ((-1 : Int) ≤ v ∧ v ≤ 281474976710656) = r := ⟨_, rfl⟩
  obtain ⟨bo, h2⟩ : ∃ r, decide ((0 : Int) ≤ ow ∧ ow ≤ 1099511627776) = r := ⟨_, rfl⟩
  obtain ⟨br, h3⟩ : ∃ r, (p == [47]) = r := ⟨_, rfl⟩
  obtain ⟨bl, h4⟩ : ∃ r, decide (d.length ≤ 256) = r := ⟨_, rfl⟩
  obtain ⟨bz, h5⟩ : ∃ r, (ow == 0) = r := ⟨_, rfl⟩
  have HV := Lib.hid (fun w => within_d v (-1) 281474976710656 w bv h1)
  have HO := Lib.hid (fun w => within_d ow 0 1099511627776 w bo h2)
  have HM := Lib.hid hm
  have HR := Lib.hid hr
  have HFI := Lib.hid fields_c
  have HBX := Lib.hid (fun w => heap_alloc_new w (.cells #[.int .i64 5, .string (B p), .string (B d), .int .i64 v, .int .i64 ow, .bool t] TO_))
  have HQ := Lib.hid (And.intro hp (And.intro h1 (And.intro h2 (And.intro h3 (And.intro h4 h5)))))
  clear hm hr h1 h2 hp hl h3 h5 h4
  have hix := fields_at5
  go_enter Tryz.func13, Tryz.ntmps13
  go_wp2_with fail
  refine (HR.out _).mono ?_
  rintro e w1 ⟨rfl, g1⟩
  have hb1 := (Fp.of_below g1).heap (HBX.out w) (fun h => h)
  have HF1 := Lib.hid (((Fp.refl Non w).alloc _).then g1.fp)
  have HB1 := Lib.hid hb1
  clear g1 hb1
  go_wp2_with fail
  refine wp_region_held_drew (S := (fun w' => w'.cell? ⟨w.heap.size, 0, none⟩ = some ((.int .i64 5)) ∧ w'.cell? ⟨w.heap.size, 1, none⟩ = some (.string (B p)) ∧ w'.cell? ⟨w.heap.size, 2, none⟩ = some (.string (B d)) ∧ w'.cell? ⟨w.heap.size, 3, none⟩ = some (.int .i64 v) ∧ w'.cell? ⟨w.heap.size, 4, none⟩ = some (.int .i64 ow) ∧ w'.cell? ⟨w.heap.size, 5, none⟩ = some (.bool t))) (by kernel_rfl) ?_ (fun hHeld => ?_)
  · exact box6 ((Fp.refl Non w1).drew.heap HB1.out (fun h => h))
  refine wpAnyH_take (i := 1) (oi := ?oi126) (v := ?vi126) ?h126 (by kernel_rfl) (by kernel_rfl) (by kernel_rfl) ?q126 (Or.inl ⟨?w126, ?y126⟩) hHeld ?r126
  case h126 => simp only [zA, zB, zC] <;> exact rfl
  case q126 => exact fun _ _ _ h => h
  case w126 => rfl
  case y126 =>
    intro w hSw
    (try dsimp only at hSw)
    obtain ⟨s0, s1, s2, s3, s4, s5⟩ := hSw
    go_simp
    try with_reducible rfl
  try simp only [zP, zN, zS, zT, zU]
  refine wpAnyH_take (i := 2) (oi := ?oi127) (v := ?vi127) ?h127 (by kernel_rfl) (by kernel_rfl) (by kernel_rfl) ?q127 (Or.inl ⟨?w127, ?y127⟩) hHeld ?r127
  case h127 => simp only [zA, zB, zC] <;> exact rfl
  case q127 => exact fun _ _ _ h => h
  case w127 => rfl
  case y127 =>
    intro w hSw
    (try dsimp only at hSw)
    obtain ⟨s0, s1, s2, s3, s4, s5⟩ := hSw
    go_simp
    try with_reducible rfl
  try simp only [zP, zN, zS, zT, zU]
  refine wpAnyH_ready (rs := [0]) (by kernel_rfl) (by simp) ?_
  refine AllReadyH.cons (o := ?ob128) ?hb128 (fun K hK => ?_) AllReadyH.nil
  case hb128 => simp only [zA, zB, zC] <;> exact rfl
  go_simp
  go_at_call 32
  refine (HFI.out _).mono ?_
  rintro e w2 ⟨rfl, f2⟩
  have hb2 := f2.heap (k := w.heap.size) ((Fp.refl Non w1).drew.heap HB1.out (fun h => h)) (fun h => h)
  have HB2 := Lib.hid hb2
  have HS2 := Lib.hid (box6 hb2)
  have HF2 := Lib.hid (HF1.out.then (((Fp.refl Non w1).drew).then f2))
  clear f2 hb2
  go_wp2_with fail
  refine hK.out _ _ HS2.out (fun hHeld => ?_)
  clear hK K
  try simp only [zP, zN, zS, zT, zU]
  refine wpAnyH_take (i := 3) (oi := ?oi129) (v := ?vi129) ?h129 (by kernel_rfl) (by kernel_rfl) (by kernel_rfl) ?q129 (Or.inl ⟨?w129, ?y129⟩) hHeld ?r129
  case h129 => simp only [zA, zB, zC] <;> exact rfl
  case q129 => exact fun _ _ _ h => h
  case w129 => rfl
  case y129 =>
    intro w hSw
    (try dsimp only at hSw)
    obtain ⟨s0, s1, s2, s3, s4, s5⟩ := hSw
    go_simp
    try with_reducible rfl
  try simp only [zP, zN, zS, zT, zU]
  refine wpAnyH_take (i := 4) (oi := ?oi130) (v := ?vi130) ?h130 (by kernel_rfl) (by kernel_rfl) (by kernel_rfl) ?q130 (Or.inl ⟨?w130, ?y130⟩) hHeld ?r130
  case h130 => simp only [zA, zB, zC] <;> exact rfl
  case q130 => exact fun _ _ _ h => h
  case w130 => rfl
  case y130 =>
    intro w hSw
    (try dsimp only at hSw)
    obtain ⟨s0, s1, s2, s3, s4, s5⟩ := hSw
    go_simp
    try with_reducible rfl
  try simp only [zP, zN, zS, zT, zU]
  refine wpAnyH_done (by kernel_rfl) ?_ _
  have s0 := HS2.out.1; have s1 := HS2.out.2.1; have s2 := HS2.out.2.2.1; have s3 := HS2.out.2.2.2.1; have s4 := HS2.out.2.2.2.2.1; have s5 := HS2.out.2.2.2.2.2
  have fz : ∀ j, w2.frozen? ⟨w.heap.size, j, none⟩ = false := fun j => by have := HB2.out; simp [World.frozen?, this]
  have z0 := fz 0; have z1 := fz 1; have z2 := fz 2; have z3 := fz 3; have z4 := fz 4; have z5 := fz 5
  clear fz
  have heq := eq_op
  clear hix
  go_wp2_with (first
    | (go_at_call_of 33 v; refine (HV.out _).mono ?_; rintro e w1 ⟨rfl, rfl⟩)
    | (go_at_call_of 33 ow; refine (HO.out _).mono ?_; rintro e w1 ⟨rfl, rfl⟩))
  all_goals
    go_ret
    refine ⟨ret_bool ?_, ?_⟩
    · rw [← HM.out]; unfold may; obtain ⟨g0, g1, g2, g3, g4, g5⟩ := HQ.out; clear HV HO HM HR HFI HBX HF1 HB1 HB2 HS2 HF2; by_cases hd : d = [] <;> by_cases hv0 : v = 0 <;> by_cases ho0 : ow = 0 <;> cases t <;> simp_all <;> omega
    · first | exact HF2.out | (repeat (first | exact HF2.out | refine Fp.setCell ?_ (.inr (Nat.le_refl _)) _))
set_option maxHeartbeats 8000000 in
theorem May_6 (o : Opn) (w : World) (hp : (split o.path).isSome = true) (hl : o.path.length ≤ 1000000) (hk : o.kind = 6) :
    Calls Tryz.prog 13 #[opV o] w fun e w' => e = .returned (.bool (may o)) ∧ Fp Non w w' := by
  obtain ⟨k, p, d, v, ow, t⟩ := o
  obtain rfl : k = 6 := hk
  unfold opV strV
  have hr := fun w => Right_g p w (sz_of hl (by omega))
  obtain ⟨m, hm⟩ : ∃ m, may ⟨6, p, d, v, ow, t⟩ = m := ⟨_, rfl⟩
  rw [hm]
  rw [show (split p).isSome = true from hp] at hr
  obtain ⟨bv, h1⟩ : ∃ r, decide ((-1 : Int) ≤ v ∧ v ≤ 281474976710656) = r := ⟨_, rfl⟩
  obtain ⟨bo, h2⟩ : ∃ r, decide ((0 : Int) ≤ ow ∧ ow ≤ 1099511627776) = r := ⟨_, rfl⟩
  obtain ⟨br, h3⟩ : ∃ r, (p == [47]) = r := ⟨_, rfl⟩
  obtain ⟨bl, h4⟩ : ∃ r, decide (d.length ≤ 256) = r := ⟨_, rfl⟩
  obtain ⟨bz, h5⟩ : ∃ r, (ow == 0) = r := ⟨_, rfl⟩
  have HV := Lib.hid (fun w => within_d v (-1) 281474976710656 w bv h1)
  have HO := Lib.hid (fun w => within_d ow 0 1099511627776 w bo h2)
  have HM := Lib.hid hm
  have HR := Lib.hid hr
  have HFI := Lib.hid fields_c
  have HBX := Lib.hid (fun w => heap_alloc_new w (.cells #[.int .i64 6, .string (B p), .string (B d), .int .i64 v, .int .i64 ow, .bool t] TO_))
  have HQ := Lib.hid (And.intro hp (And.intro h1 (And.intro h2 (And.intro h3 (And.intro h4 h5)))))
  clear hm hr h1 h2 hp hl h3 h5 h4
  have hix := fields_at6
  go_enter Tryz.func13, Tryz.ntmps13
  go_wp2_with fail
  refine (HR.out _).mono ?_
  rintro e w1 ⟨rfl, g1⟩
  have hb1 := (Fp.of_below g1).heap (HBX.out w) (fun h => h)
  have HF1 := Lib.hid (((Fp.refl Non w).alloc _).then g1.fp)
  have HB1 := Lib.hid hb1
  clear g1 hb1
  go_wp2_with fail
  refine wp_region_held_drew (S := (fun w' => w'.cell? ⟨w.heap.size, 0, none⟩ = some ((.int .i64 6)) ∧ w'.cell? ⟨w.heap.size, 1, none⟩ = some (.string (B p)) ∧ w'.cell? ⟨w.heap.size, 2, none⟩ = some (.string (B d)) ∧ w'.cell? ⟨w.heap.size, 3, none⟩ = some (.int .i64 v) ∧ w'.cell? ⟨w.heap.size, 4, none⟩ = some (.int .i64 ow) ∧ w'.cell? ⟨w.heap.size, 5, none⟩ = some (.bool t))) (by kernel_rfl) ?_ (fun hHeld => ?_)
  · exact box6 ((Fp.refl Non w1).drew.heap HB1.out (fun h => h))
  refine wpAnyH_take (i := 1) (oi := ?oi131) (v := ?vi131) ?h131 (by kernel_rfl) (by kernel_rfl) (by kernel_rfl) ?q131 (Or.inl ⟨?w131, ?y131⟩) hHeld ?r131
  case h131 => simp only [zA, zB, zC] <;> exact rfl
  case q131 => exact fun _ _ _ h => h
  case w131 => rfl
  case y131 =>
    intro w hSw
    (try dsimp only at hSw)
    obtain ⟨s0, s1, s2, s3, s4, s5⟩ := hSw
    go_simp
    try with_reducible rfl
  try simp only [zP, zN, zS, zT, zU]
  refine wpAnyH_take (i := 2) (oi := ?oi132) (v := ?vi132) ?h132 (by kernel_rfl) (by kernel_rfl) (by kernel_rfl) ?q132 (Or.inl ⟨?w132, ?y132⟩) hHeld ?r132
  case h132 => simp only [zA, zB, zC] <;> exact rfl
  case q132 => exact fun _ _ _ h => h
  case w132 => rfl
  case y132 =>
    intro w hSw
    (try dsimp only at hSw)
    obtain ⟨s0, s1, s2, s3, s4, s5⟩ := hSw
    go_simp
    try with_reducible rfl
  try simp only [zP, zN, zS, zT, zU]
  refine wpAnyH_ready (rs := [0]) (by kernel_rfl) (by simp) ?_
  refine AllReadyH.cons (o := ?ob133) ?hb133 (fun K hK => ?_) AllReadyH.nil
  case hb133 => simp only [zA, zB, zC] <;> exact rfl
  go_simp
  go_at_call 32
  refine (HFI.out _).mono ?_
  rintro e w2 ⟨rfl, f2⟩
  have hb2 := f2.heap (k := w.heap.size) ((Fp.refl Non w1).drew.heap HB1.out (fun h => h)) (fun h => h)
  have HB2 := Lib.hid hb2
  have HS2 := Lib.hid (box6 hb2)
  have HF2 := Lib.hid (HF1.out.then (((Fp.refl Non w1).drew).then f2))
  clear f2 hb2
  go_wp2_with fail
  refine hK.out _ _ HS2.out (fun hHeld => ?_)
  clear hK K
  try simp only [zP, zN, zS, zT, zU]
  refine wpAnyH_take (i := 3) (oi := ?oi134) (v := ?vi134) ?h134 (by kernel_rfl) (by kernel_rfl) (by kernel_rfl) ?q134 (Or.inl ⟨?w134, ?y134⟩) hHeld ?r134
  case h134 => simp only [zA, zB, zC] <;> exact rfl
  case q134 => exact fun _ _ _ h => h
  case w134 => rfl
  case y134 =>
    intro w hSw
    (try dsimp only at hSw)
    obtain ⟨s0, s1, s2, s3, s4, s5⟩ := hSw
    go_simp
    try with_reducible rfl
  try simp only [zP, zN, zS, zT, zU]
  refine wpAnyH_take (i := 4) (oi := ?oi135) (v := ?vi135) ?h135 (by kernel_rfl) (by kernel_rfl) (by kernel_rfl) ?q135 (Or.inl ⟨?w135, ?y135⟩) hHeld ?r135
  case h135 => simp only [zA, zB, zC] <;> exact rfl
  case q135 => exact fun _ _ _ h => h
  case w135 => rfl
  case y135 =>
    intro w hSw
    (try dsimp only at hSw)
    obtain ⟨s0, s1, s2, s3, s4, s5⟩ := hSw
    go_simp
    try with_reducible rfl
  try simp only [zP, zN, zS, zT, zU]
  refine wpAnyH_done (by kernel_rfl) ?_ _
  have s0 := HS2.out.1; have s1 := HS2.out.2.1; have s2 := HS2.out.2.2.1; have s3 := HS2.out.2.2.2.1; have s4 := HS2.out.2.2.2.2.1; have s5 := HS2.out.2.2.2.2.2
  have fz : ∀ j, w2.frozen? ⟨w.heap.size, j, none⟩ = false := fun j => by have := HB2.out; simp [World.frozen?, this]
  have z0 := fz 0; have z1 := fz 1; have z2 := fz 2; have z3 := fz 3; have z4 := fz 4; have z5 := fz 5
  clear fz
  have heq := eq_op
  clear hix
  go_wp2_with (first
    | (go_at_call_of 33 v; refine (HV.out _).mono ?_; rintro e w1 ⟨rfl, rfl⟩)
    | (go_at_call_of 33 ow; refine (HO.out _).mono ?_; rintro e w1 ⟨rfl, rfl⟩))
  all_goals
    go_ret
    refine ⟨ret_bool ?_, ?_⟩
    · rw [← HM.out]; unfold may; obtain ⟨g0, g1, g2, g3, g4, g5⟩ := HQ.out; clear HV HO HM HR HFI HBX HF1 HB1 HB2 HS2 HF2; by_cases hd : d = [] <;> by_cases hv0 : v = 0 <;> by_cases ho0 : ow = 0 <;> cases t <;> simp_all <;> omega
    · first | exact HF2.out | (repeat (first | exact HF2.out | refine Fp.setCell ?_ (.inr (Nat.le_refl _)) _))
set_option maxHeartbeats 8000000 in
theorem May_7 (o : Opn) (w : World) (hp : (split o.path).isSome = true) (hl : o.path.length ≤ 1000000) (hk : o.kind = 7) :
    Calls Tryz.prog 13 #[opV o] w fun e w' => e = .returned (.bool (may o)) ∧ Fp Non w w' := by
  obtain ⟨k, p, d, v, ow, t⟩ := o
  obtain rfl : k = 7 := hk
  unfold opV strV
  have hr := fun w => Right_g p w (sz_of hl (by omega))
  obtain ⟨m, hm⟩ : ∃ m, may ⟨7, p, d, v, ow, t⟩ = m := ⟨_, rfl⟩
  rw [hm]
  rw [show (split p).isSome = true from hp] at hr
  obtain ⟨bv, h1⟩ : ∃ r, decide ((-1 : Int) ≤ v ∧ v ≤ 281474976710656) = r := ⟨_, rfl⟩
  obtain ⟨bo, h2⟩ : ∃ r, decide ((0 : Int) ≤ ow ∧ ow ≤ 1099511627776) = r := ⟨_, rfl⟩
  obtain ⟨br, h3⟩ : ∃ r, (p == [47]) = r := ⟨_, rfl⟩
  obtain ⟨bl, h4⟩ : ∃ r, decide (d.length ≤ 256) = r := ⟨_, rfl⟩
  obtain ⟨bz, h5⟩ : ∃ r, (ow == 0) = r := ⟨_, rfl⟩
  have HV := Lib.hid (fun w => within_d v (-1) 281474976710656 w bv h1)
  have HO := Lib.hid (fun w => within_d ow 0 1099511627776 w bo h2)
  have HM := Lib.hid hm
  have HR := Lib.hid hr
  have HFI := Lib.hid fields_c
  have HBX := Lib.hid (fun w => heap_alloc_new w (.cells #[.int .i64 7, .string (B p), .string (B d), .int .i64 v, .int .i64 ow, .bool t] TO_))
  have HQ := Lib.hid (And.intro hp (And.intro h1 (And.intro h2 (And.intro h3 (And.intro h4 h5)))))
  clear hm hr h1 h2 hp hl h3 h4
  have hix := fields_at7
  go_enter Tryz.func13, Tryz.ntmps13
  go_wp2_with fail
  refine (HR.out _).mono ?_
  rintro e w1 ⟨rfl, g1⟩
  have hb1 := (Fp.of_below g1).heap (HBX.out w) (fun h => h)
  have HF1 := Lib.hid (((Fp.refl Non w).alloc _).then g1.fp)
  have HB1 := Lib.hid hb1
  clear g1 hb1
  go_wp2_with fail
  refine wp_region_held_drew (S := (fun w' => w'.cell? ⟨w.heap.size, 0, none⟩ = some ((.int .i64 7)) ∧ w'.cell? ⟨w.heap.size, 1, none⟩ = some (.string (B p)) ∧ w'.cell? ⟨w.heap.size, 2, none⟩ = some (.string (B d)) ∧ w'.cell? ⟨w.heap.size, 3, none⟩ = some (.int .i64 v) ∧ w'.cell? ⟨w.heap.size, 4, none⟩ = some (.int .i64 ow) ∧ w'.cell? ⟨w.heap.size, 5, none⟩ = some (.bool t))) (by kernel_rfl) ?_ (fun hHeld => ?_)
  · exact box6 ((Fp.refl Non w1).drew.heap HB1.out (fun h => h))
  refine wpAnyH_take (i := 1) (oi := ?oi136) (v := ?vi136) ?h136 (by kernel_rfl) (by kernel_rfl) (by kernel_rfl) ?q136 (Or.inl ⟨?w136, ?y136⟩) hHeld ?r136
  case h136 => simp only [zA, zB, zC] <;> exact rfl
  case q136 => exact fun _ _ _ h => h
  case w136 => rfl
  case y136 =>
    intro w hSw
    (try dsimp only at hSw)
    obtain ⟨s0, s1, s2, s3, s4, s5⟩ := hSw
    go_simp
    try with_reducible rfl
  try simp only [zP, zN, zS, zT, zU]
  refine wpAnyH_take (i := 2) (oi := ?oi137) (v := ?vi137) ?h137 (by kernel_rfl) (by kernel_rfl) (by kernel_rfl) ?q137 (Or.inl ⟨?w137, ?y137⟩) hHeld ?r137
  case h137 => simp only [zA, zB, zC] <;> exact rfl
  case q137 => exact fun _ _ _ h => h
  case w137 => rfl
  case y137 =>
    intro w hSw
    (try dsimp only at hSw)
    obtain ⟨s0, s1, s2, s3, s4, s5⟩ := hSw
    go_simp
    try with_reducible rfl
  try simp only [zP, zN, zS, zT, zU]
  refine wpAnyH_ready (rs := [0]) (by kernel_rfl) (by simp) ?_
  refine AllReadyH.cons (o := ?ob138) ?hb138 (fun K hK => ?_) AllReadyH.nil
  case hb138 => simp only [zA, zB, zC] <;> exact rfl
  go_simp
  go_at_call 32
  refine (HFI.out _).mono ?_
  rintro e w2 ⟨rfl, f2⟩
  have hb2 := f2.heap (k := w.heap.size) ((Fp.refl Non w1).drew.heap HB1.out (fun h => h)) (fun h => h)
  have HB2 := Lib.hid hb2
  have HS2 := Lib.hid (box6 hb2)
  have HF2 := Lib.hid (HF1.out.then (((Fp.refl Non w1).drew).then f2))
  clear f2 hb2
  go_wp2_with fail
  refine hK.out _ _ HS2.out (fun hHeld => ?_)
  clear hK K
  try simp only [zP, zN, zS, zT, zU]
  refine wpAnyH_take (i := 3) (oi := ?oi139) (v := ?vi139) ?h139 (by kernel_rfl) (by kernel_rfl) (by kernel_rfl) ?q139 (Or.inl ⟨?w139, ?y139⟩) hHeld ?r139
  case h139 => simp only [zA, zB, zC] <;> exact rfl
  case q139 => exact fun _ _ _ h => h
  case w139 => rfl
  case y139 =>
    intro w hSw
    (try dsimp only at hSw)
    obtain ⟨s0, s1, s2, s3, s4, s5⟩ := hSw
    go_simp
    try with_reducible rfl
  try simp only [zP, zN, zS, zT, zU]
  refine wpAnyH_take (i := 4) (oi := ?oi140) (v := ?vi140) ?h140 (by kernel_rfl) (by kernel_rfl) (by kernel_rfl) ?q140 (Or.inl ⟨?w140, ?y140⟩) hHeld ?r140
  case h140 => simp only [zA, zB, zC] <;> exact rfl
  case q140 => exact fun _ _ _ h => h
  case w140 => rfl
  case y140 =>
    intro w hSw
    (try dsimp only at hSw)
    obtain ⟨s0, s1, s2, s3, s4, s5⟩ := hSw
    go_simp
    try with_reducible rfl
  try simp only [zP, zN, zS, zT, zU]
  refine wpAnyH_done (by kernel_rfl) ?_ _
  have s0 := HS2.out.1; have s1 := HS2.out.2.1; have s2 := HS2.out.2.2.1; have s3 := HS2.out.2.2.2.1; have s4 := HS2.out.2.2.2.2.1; have s5 := HS2.out.2.2.2.2.2
  have fz : ∀ j, w2.frozen? ⟨w.heap.size, j, none⟩ = false := fun j => by have := HB2.out; simp [World.frozen?, this]
  have z0 := fz 0; have z1 := fz 1; have z2 := fz 2; have z3 := fz 3; have z4 := fz 4; have z5 := fz 5
  clear fz
  have heq := eq_op
  clear hix
  cases bo <;> cases bz
  all_goals
    go_wp2_with (first
      | (go_at_call_of 33 v; refine (HV.out _).mono ?_; rintro e w1 ⟨rfl, rfl⟩)
      | (go_at_call_of 33 ow; refine (HO.out _).mono ?_; rintro e w1 ⟨rfl, rfl⟩))
    all_goals
      go_ret
      refine ⟨ret_bool ?_, ?_⟩
      · rw [← HM.out]; unfold may; obtain ⟨g0, g1, g2, g3, g4, g5⟩ := HQ.out; clear HV HO HM HR HFI HBX HF1 HB1 HB2 HS2 HF2; by_cases hd : d = [] <;> by_cases hv0 : v = 0 <;> by_cases ho0 : ow = 0 <;> cases t <;> simp_all <;> omega
      · first | exact HF2.out | (repeat (first | exact HF2.out | refine Fp.setCell ?_ (.inr (Nat.le_refl _)) _))
end Go.Proofs.YthaepjeikicigaaGreatDoor
