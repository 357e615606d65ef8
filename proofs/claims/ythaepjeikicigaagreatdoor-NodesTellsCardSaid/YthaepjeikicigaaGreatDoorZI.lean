/- Texts of this proof, merged. -/
import Derived.Test.YthaepjeikicigaaGreatDoorZF
/- May, kind by kind. -/
namespace Go.Proofs.YthaepjeikicigaaGreatDoor
set_option linter.unusedSimpArgs false
set_option linter.unusedVariables false
set_option maxRecDepth 20000
set_option linter.unusedVariables false
set_option linter.unusedSimpArgs false
open Go.RowKit Pm
set_option maxHeartbeats 8000000 in
theorem May_1 (o : Opn) (w : World) (hp : (split o.path).isSome = true) (hl : o.path.length ≤ 1000000) (hk : o.kind = 1) :
    Calls Tryz.prog 13 #[opV o] w fun e w' => e = .returned (.bool (may o)) ∧ Fp Non w w' := by
  obtain ⟨k, p, d, v, ow, t⟩ := o
  obtain rfl : k = 1 := hk
  unfold opV strV
  have hr := fun w => Right_g p w (sz_of hl (by omega))
  obtain ⟨m, hm⟩ : ∃ m, may ⟨1, p, d, v, ow, t⟩ = m := ⟨_, rfl⟩
  rw [hm]
  rw [show (split p).isSome = true from hp] at hr
  obtain ⟨bv, h1⟩ : ∃ r, decide ((-1 : Int) ≤ v ∧ v ≤ 281474976710656) = r := ⟨_, rfl⟩
  obtain ⟨bo, h2⟩ : ∃ r, decide ((0 : Int) ≤ ow ∧ ow ≤ 1099511627776) = r := ⟨_, rfl⟩
  obtain ⟨br, h3⟩ : ∃ r, (p == [47]) = r := ⟨_, rfl⟩
  obtain ⟨bl, h4⟩ : ∃ r, decide (d.length ≤ 256) = r := ⟨_, rfl⟩
  obtain ⟨bz, h5⟩ : ∃ r, (ow == 0) = r := ⟨_, rfl⟩
  have HV := Lib.hid (fun w => within_d v (-1) 281474976710656 w bv h1)
  have HO := Lib.hid (fun w => within_d ow 0 1099511627776 w bo h2)
  have HM := Lib.hid hm
  have HR := Lib.hid hr
  have HFI := Lib.hid fields_c
  have HBX := Lib.hid (fun w => heap_alloc_new w (.cells #[.int .i64 1, .string (B p), .string (B d), .int .i64 v, .int .i64 ow, .bool t] TO_))
  have HQ := Lib.hid (And.intro hp (And.intro h1 (And.intro h2 (And.intro h3 (And.intro h4 h5)))))
  have q4 : (((d.length : Int) ≤ 256) = (bl = true)) := by rw [← h4]; simp; omega
  have q5 : ((d.length ≤ 256) = (bl = true)) := by rw [← h4]; simp
  clear hm hr h1 h2 hp hl h5 h4
  have hix := fields_at1
  go_enter Tryz.func13, Tryz.ntmps13
  go_wp2_with fail
  refine (HR.out _).mono ?_
  rintro e w1 ⟨rfl, g1⟩
  have hb1 := (Fp.of_below g1).heap (HBX.out w) (fun h => h)
  have HF1 := Lib.hid (((Fp.refl Non w).alloc _).then g1.fp)
  have HB1 := Lib.hid hb1
  clear g1 hb1
  go_wp2_with fail
  refine wp_region_held_drew (S := (fun w' => w'.cell? ⟨w.heap.size, 0, none⟩ = some ((.int .i64 1)) ∧ w'.cell? ⟨w.heap.size, 1, none⟩ = some (.string (B p)) ∧ w'.cell? ⟨w.heap.size, 2, none⟩ = some (.string (B d)) ∧ w'.cell? ⟨w.heap.size, 3, none⟩ = some (.int .i64 v) ∧ w'.cell? ⟨w.heap.size, 4, none⟩ = some (.int .i64 ow) ∧ w'.cell? ⟨w.heap.size, 5, none⟩ = some (.bool t))) (by kernel_rfl) ?_ (fun hHeld => ?_)
  · exact box6 ((Fp.refl Non w1).drew.heap HB1.out (fun h => h))
  refine wpAnyH_take (i := 1) (oi := ?oi106) (v := ?vi106) ?h106 (by kernel_rfl) (by kernel_rfl) (by kernel_rfl) ?q106 (Or.inl ⟨?w106, ?y106⟩) hHeld ?r106
  case h106 => simp only [zA, zB, zC] <;> exact rfl
  case q106 => exact fun _ _ _ h => h
  case w106 => rfl
  case y106 =>
    intro w hSw
    (try dsimp only at hSw)
    obtain ⟨s0, s1, s2, s3, s4, s5⟩ := hSw
    go_simp
    try with_reducible rfl
  try simp only [zP, zN, zS, zT, zU]
  refine wpAnyH_take (i := 2) (oi := ?oi107) (v := ?vi107) ?h107 (by kernel_rfl) (by kernel_rfl) (by kernel_rfl) ?q107 (Or.inl ⟨?w107, ?y107⟩) hHeld ?r107
  case h107 => simp only [zA, zB, zC] <;> exact rfl
  case q107 => exact fun _ _ _ h => h
  case w107 => rfl
  case y107 =>
    intro w hSw
    (try dsimp only at hSw)
    obtain ⟨s0, s1, s2, s3, s4, s5⟩ := hSw
    go_simp
    try with_reducible rfl
  try simp only [zP, zN, zS, zT, zU]
  refine wpAnyH_ready (rs := [0]) (by kernel_rfl) (by simp) ?_
  refine AllReadyH.cons (o := ?ob108) ?hb108 (fun K hK => ?_) AllReadyH.nil
  case hb108 => simp only [zA, zB, zC] <;> exact rfl
  go_simp
  go_at_call 32
  refine (HFI.out _).mono ?_
  rintro e w2 ⟨rfl, f2⟩
  have hb2 := f2.heap (k := w.heap.size) ((Fp.refl Non w1).drew.heap HB1.out (fun h => h)) (fun h => h)
  have HB2 := Lib.hid hb2
  have HS2 := Lib.hid (box6 hb2)
  have HF2 := Lib.hid (HF1.out.then (((Fp.refl Non w1).drew).then f2))
  clear f2 hb2
  go_wp2_with fail
  refine hK.out _ _ HS2.out (fun hHeld => ?_)
  clear hK K
  try simp only [zP, zN, zS, zT, zU]
  refine wpAnyH_take (i := 3) (oi := ?oi109) (v := ?vi109) ?h109 (by kernel_rfl) (by kernel_rfl) (by kernel_rfl) ?q109 (Or.inl ⟨?w109, ?y109⟩) hHeld ?r109
  case h109 => simp only [zA, zB, zC] <;> exact rfl
  case q109 => exact fun _ _ _ h => h
  case w109 => rfl
  case y109 =>
    intro w hSw
    (try dsimp only at hSw)
    obtain ⟨s0, s1, s2, s3, s4, s5⟩ := hSw
    go_simp
    try with_reducible rfl
  try simp only [zP, zN, zS, zT, zU]
  refine wpAnyH_take (i := 4) (oi := ?oi110) (v := ?vi110) ?h110 (by kernel_rfl) (by kernel_rfl) (by kernel_rfl) ?q110 (Or.inl ⟨?w110, ?y110⟩) hHeld ?r110
  case h110 => simp only [zA, zB, zC] <;> exact rfl
  case q110 => exact fun _ _ _ h => h
  case w110 => rfl
  case y110 =>
    intro w hSw
    (try dsimp only at hSw)
    obtain ⟨s0, s1, s2, s3, s4, s5⟩ := hSw
    go_simp
    try with_reducible rfl
  try simp only [zP, zN, zS, zT, zU]
  refine wpAnyH_done (by kernel_rfl) ?_ _
  have s0 := HS2.out.1; have s1 := HS2.out.2.1; have s2 := HS2.out.2.2.1; have s3 := HS2.out.2.2.2.1; have s4 := HS2.out.2.2.2.2.1; have s5 := HS2.out.2.2.2.2.2
  have fz : ∀ j, w2.frozen? ⟨w.heap.size, j, none⟩ = false := fun j => by have := HB2.out; simp [World.frozen?, this]
  have z0 := fz 0; have z1 := fz 1; have z2 := fz 2; have z3 := fz 3; have z4 := fz 4; have z5 := fz 5
  clear fz
  have heq := eq_op
  clear hix
  cases br <;> cases bl <;> cases bo
  all_goals simp only [Bool.false_eq_true, eq_self] at q4 q5
  all_goals
    go_wp2_with (first
      | (go_at_call_of 33 v; refine (HV.out _).mono ?_; rintro e w1 ⟨rfl, rfl⟩)
      | (go_at_call_of 33 ow; refine (HO.out _).mono ?_; rintro e w1 ⟨rfl, rfl⟩))
    all_goals
      go_ret
      refine ⟨ret_bool ?_, ?_⟩
      · rw [← HM.out]; unfold may; obtain ⟨g0, g1, g2, g3, g4, g5⟩ := HQ.out; clear HV HO HM HR HFI HBX HF1 HB1 HB2 HS2 HF2; by_cases hd : d = [] <;> by_cases hv0 : v = 0 <;> by_cases ho0 : ow = 0 <;> cases t <;> simp_all <;> omega
      · first | exact HF2.out | (repeat (first | exact HF2.out | refine Fp.setCell ?_ (.inr (Nat.le_refl _)) _))
set_option maxHeartbeats 8000000 in
theorem May_2 (o : Opn) (w : World) (hp : (split o.path).isSome = true) (hl : o.path.length ≤ 1000000) (hk : o.kind = 2) :
    Calls Tryz.prog 13 #[opV o] w fun e w' => e = .returned (.bool (may o)) ∧ Fp Non w w' := by
  obtain ⟨k, p, d, v, ow, t⟩ := o
  obtain rfl : k = 2 := hk
  unfold opV strV
  have hr := fun w => Right_g p w (sz_of hl (by omega))
  obtain ⟨m, hm⟩ : ∃ m, may ⟨2, p, d, v, ow, t⟩ = m := ⟨_, rfl⟩
  rw [hm]
  rw [show (split p).isSome = true from hp] at hr
  obtain ⟨bv, h1⟩ : ∃ r, decide ((-1 : Int) ≤ v ∧ v ≤ 281474976710656) = r := ⟨_, rfl⟩
  obtain ⟨bo, h2⟩ : ∃ r, decide ((0 : Int) ≤ ow ∧ ow ≤ 1099511627776) = r := ⟨_, rfl⟩
  obtain ⟨br, h3⟩ : ∃ r, (p == [47]) = r := ⟨_, rfl⟩
  obtain ⟨bl, h4⟩ : ∃ r, decide (d.length ≤ 256) = r := ⟨_, rfl⟩
  obtain ⟨bz, h5⟩ : ∃ r, (ow == 0) = r := ⟨_, rfl⟩
  have HV := Lib.hid (fun w => within_d v (-1) 281474976710656 w bv h1)
  have HO := Lib.hid (fun w => within_d ow 0 1099511627776 w bo h2)
  have HM := Lib.hid hm
  have HR := Lib.hid hr
  have HFI := Lib.hid fields_c
  have HBX := Lib.hid (fun w => heap_alloc_new w (.cells #[.int .i64 2, .string (B p), .string (B d), .int .i64 v, .int .i64 ow, .bool t] TO_))
  have HQ := Lib.hid (And.intro hp (And.intro h1 (And.intro h2 (And.intro h3 (And.intro h4 h5)))))
  clear hm hr h1 h2 hp hl h5 h4
  have hix := fields_at2
  go_enter Tryz.func13, Tryz.ntmps13
  go_wp2_with fail
  refine (HR.out _).mono ?_
  rintro e w1 ⟨rfl, g1⟩
  have hb1 := (Fp.of_below g1).heap (HBX.out w) (fun h => h)
  have HF1 := Lib.hid (((Fp.refl Non w).alloc _).then g1.fp)
  have HB1 := Lib.hid hb1
  clear g1 hb1
  go_wp2_with fail
  refine wp_region_held_drew (S := (fun w' => w'.cell? ⟨w.heap.size, 0, none⟩ = some ((.int .i64 2)) ∧ w'.cell? ⟨w.heap.size, 1, none⟩ = some (.string (B p)) ∧ w'.cell? ⟨w.heap.size, 2, none⟩ = some (.string (B d)) ∧ w'.cell? ⟨w.heap.size, 3, none⟩ = some (.int .i64 v) ∧ w'.cell? ⟨w.heap.size, 4, none⟩ = some (.int .i64 ow) ∧ w'.cell? ⟨w.heap.size, 5, none⟩ = some (.bool t))) (by kernel_rfl) ?_ (fun hHeld => ?_)
  · exact box6 ((Fp.refl Non w1).drew.heap HB1.out (fun h => h))
  refine wpAnyH_take (i := 1) (oi := ?oi111) (v := ?vi111) ?h111 (by kernel_rfl) (by kernel_rfl) (by kernel_rfl) ?q111 (Or.inl ⟨?w111, ?y111⟩) hHeld ?r111
  case h111 => simp only [zA, zB, zC] <;> exact rfl
  case q111 => exact fun _ _ _ h => h
  case w111 => rfl
  case y111 =>
    intro w hSw
    (try dsimp only at hSw)
    obtain ⟨s0, s1, s2, s3, s4, s5⟩ := hSw
    go_simp
    try with_reducible rfl
  try simp only [zP, zN, zS, zT, zU]
  refine wpAnyH_take (i := 2) (oi := ?oi112) (v := ?vi112) ?h112 (by kernel_rfl) (by kernel_rfl) (by kernel_rfl) ?q112 (Or.inl ⟨?w112, ?y112⟩) hHeld ?r112
  case h112 => simp only [zA, zB, zC] <;> exact rfl
  case q112 => exact fun _ _ _ h => h
  case w112 => rfl
  case y112 =>
    intro w hSw
    (try dsimp only at hSw)
    obtain ⟨s0, s1, s2, s3, s4, s5⟩ := hSw
    go_simp
    try with_reducible rfl
  try simp only [zP, zN, zS, zT, zU]
  refine wpAnyH_ready (rs := [0]) (by kernel_rfl) (by simp) ?_
  refine AllReadyH.cons (o := ?ob113) ?hb113 (fun K hK => ?_) AllReadyH.nil
  case hb113 => simp only [zA, zB, zC] <;> exact rfl
  go_simp
  go_at_call 32
  refine (HFI.out _).mono ?_
  rintro e w2 ⟨rfl, f2⟩
  have hb2 := f2.heap (k := w.heap.size) ((Fp.refl Non w1).drew.heap HB1.out (fun h => h)) (fun h => h)
  have HB2 := Lib.hid hb2
  have HS2 := Lib.hid (box6 hb2)
  have HF2 := Lib.hid (HF1.out.then (((Fp.refl Non w1).drew).then f2))
  clear f2 hb2
  go_wp2_with fail
  refine hK.out _ _ HS2.out (fun hHeld => ?_)
  clear hK K
  try simp only [zP, zN, zS, zT, zU]
  refine wpAnyH_take (i := 3) (oi := ?oi114) (v := ?vi114) ?h114 (by kernel_rfl) (by kernel_rfl) (by kernel_rfl) ?q114 (Or.inl ⟨?w114, ?y114⟩) hHeld ?r114
  case h114 => simp only [zA, zB, zC] <;> exact rfl
  case q114 => exact fun _ _ _ h => h
  case w114 => rfl
  case y114 =>
    intro w hSw
    (try dsimp only at hSw)
    obtain ⟨s0, s1, s2, s3, s4, s5⟩ := hSw
    go_simp
    try with_reducible rfl
  try simp only [zP, zN, zS, zT, zU]
  refine wpAnyH_take (i := 4) (oi := ?oi115) (v := ?vi115) ?h115 (by kernel_rfl) (by kernel_rfl) (by kernel_rfl) ?q115 (Or.inl ⟨?w115, ?y115⟩) hHeld ?r115
  case h115 => simp only [zA, zB, zC] <;> exact rfl
  case q115 => exact fun _ _ _ h => h
  case w115 => rfl
  case y115 =>
    intro w hSw
    (try dsimp only at hSw)
    obtain ⟨s0, s1, s2, s3, s4, s5⟩ := hSw
    go_simp
    try with_reducible rfl
  try simp only [zP, zN, zS, zT, zU]
  refine wpAnyH_done (by kernel_rfl) ?_ _
  have s0 := HS2.out.1; have s1 := HS2.out.2.1; have s2 := HS2.out.2.2.1; have s3 := HS2.out.2.2.2.1; have s4 := HS2.out.2.2.2.2.1; have s5 := HS2.out.2.2.2.2.2
  have fz : ∀ j, w2.frozen? ⟨w.heap.size, j, none⟩ = false := fun j => by have := HB2.out; simp [World.frozen?, this]
  have z0 := fz 0; have z1 := fz 1; have z2 := fz 2; have z3 := fz 3; have z4 := fz 4; have z5 := fz 5
  clear fz
  have heq := eq_op
  clear hix
  cases br <;> cases bv
  all_goals
    go_wp2_with (first
      | (go_at_call_of 33 v; refine (HV.out _).mono ?_; rintro e w1 ⟨rfl, rfl⟩)
      | (go_at_call_of 33 ow; refine (HO.out _).mono ?_; rintro e w1 ⟨rfl, rfl⟩))
    all_goals
      go_ret
      refine ⟨ret_bool ?_, ?_⟩
      · rw [← HM.out]; unfold may; obtain ⟨g0, g1, g2, g3, g4, g5⟩ := HQ.out; clear HV HO HM HR HFI HBX HF1 HB1 HB2 HS2 HF2; by_cases hd : d = [] <;> by_cases hv0 : v = 0 <;> by_cases ho0 : ow = 0 <;> cases t <;> simp_all <;> omega
      · first | exact HF2.out | (repeat (first | exact HF2.out | refine Fp.setCell ?_ (.inr (Nat.le_refl _)) _))
end Go.Proofs.YthaepjeikicigaaGreatDoor
