/- A text of this proof. -/
import Derived.Test.YtphoglepiegeiaaGreatDoorZAD
import Derived.Test.YtphoglepiegeiaaGreatDoorZAE
import Derived.Test.YtphoglepiegeiaaGreatDoorZAJ
namespace Go.Proofs.YtphoglepiegeiaaGreatDoor
set_option linter.unusedSimpArgs false
set_option linter.unusedVariables false
set_option maxRecDepth 20000
set_option linter.unusedVariables false
set_option linter.unusedSimpArgs false
open Go.RowKit Pm
set_option maxHeartbeats 8000000 in
theorem May_3 (o : Opn) (w : World) (hp : (split o.path).isSome = true) (hl : o.path.length ≤ 1000000) (hk : o.kind = 3) :
  Calls Tryz.prog 37 #[opV o] w fun e w' => e = .returned (.bool (may o)) ∧ Fp Non w w' := by
 obtain ⟨k, p, d, v, ow, t⟩ := o
 obtain rfl : k = 3 := hk
 unfold opV strV
 have hr := fun w => Right_g p w (sz_of hl (by omega))
 obtain ⟨m, hm⟩ : ∃ m, may ⟨3, p, d, v, ow, t⟩ = m := ⟨_, rfl⟩
 rw [hm]
 rw [show (split p).isSome = true from hp] at hr
 obtain ⟨bv, h1⟩ : ∃ r, decide ((-1 : Int) ≤ v ∧ v ≤ 281474976710656) = r := ⟨_, rfl⟩
 obtain ⟨bo, h2⟩ : ∃ r, decide ((0 : Int) ≤ ow ∧ ow ≤ 1099511627776) = r := ⟨_, rfl⟩
 obtain ⟨br, h3⟩ : ∃ r, (p == [47]) = r := ⟨_, rfl⟩
 obtain ⟨bl, h4⟩ : ∃ r, decide (d.length ≤ 256) = r := ⟨_, rfl⟩
 obtain ⟨bz, h5⟩ : ∃ r, (ow == 0) = r := ⟨_, rfl⟩
 have HV := Lib.hid (fun w => within_d v (-1) 281474976710656 w bv h1)
 have HO := Lib.hid (fun w => within_d ow 0 1099511627776 w bo h2)
 have HM := Lib.hid hm
 have HR := Lib.hid hr
 have HFI := Lib.hid fields_c
 have HBX := Lib.hid (fun w => heap_alloc_new w (.cells #[.int .i64 3, .string (B p), .string (B d), .int .i64 v, .int .i64 ow, .bool t] TO_))
 have HQ := Lib.hid (And.intro hp (And.intro h1 (And.intro h2 (And.intro h3 (And.intro h4 h5)))))
 have q4 : (((d.length : Int) ≤ 256) = (bl = true)) := by rw [← h4]; simp; omega
 have q5 : ((d.length ≤ 256) = (bl = true)) := by rw [← h4]; simp
 clear hm hr h1 h2 hp hl h3 h5 h4
 have hix := fields_at3
 go_enter Tryz.func37, Tryz.ntmps37
 go_wp2_with fail
 refine (HR.out _).mono ?_
 rintro e w1 ⟨rfl, g1⟩
 have hb1 := (Fp.of_below g1).heap (HBX.out w) (fun h => h)
 have HF1 := Lib.hid (((Fp.refl Non w).alloc _).then g1.fp)
 have HB1 := Lib.hid hb1
 clear g1 hb1
 go_wp2_with fail
 refine wp_region_held_drew (S := (fun w' => w'.cell? ⟨w.heap.size, 0, none⟩ = some ((.int .i64 3)) ∧ w'.cell? ⟨w.heap.size, 1, none⟩ = some (.string (B p)) ∧ w'.cell? ⟨w.heap.size, 2, none⟩ = some (.string (B d)) ∧ w'.cell? ⟨w.heap.size, 3, none⟩ = some (.int .i64 v) ∧ w'.cell? ⟨w.heap.size, 4, none⟩ = some (.int .i64 ow) ∧ w'.cell? ⟨w.heap.size, 5, none⟩ = some (.bool t))) (by kernel_rfl) ?_ (fun hHeld => ?_)
 ·exact box6 ((Fp.refl Non w1).drew.heap HB1.out (fun h => h))
 refine tk 1 (v := ?_) hHeld (fun w hSw => ?_) ?_; rotate_left
 ·(try dsimp only at hSw); obtain ⟨s0, s1, s2, s3, s4, s5⟩ := hSw; go_simp; try with_reducible rfl
 try simp only [zP, zN, zS, zT, zU]
 refine tk 2 (v := ?_) hHeld (fun w hSw => ?_) ?_; rotate_left
 ·(try dsimp only at hSw); obtain ⟨s0, s1, s2, s3, s4, s5⟩ := hSw; go_simp; try with_reducible rfl
 try simp only [zP, zN, zS, zT, zU]
 refine wpAnyH_ready (rs := [0]) (by kernel_rfl) (by simp) ?_
 refine AllReadyH.cons (o := ?ob118) ?hb118 (fun K hK => ?_) AllReadyH.nil
 case hb118 => simp only [zA, zB, zC] <;> exact rfl
 go_simp
 go_at_call 79
 refine (HFI.out _).mono ?_
 rintro e w2 ⟨rfl, f2⟩
 have hb2 := f2.heap (k := w.heap.size) ((Fp.refl Non w1).drew.heap HB1.out (fun h => h)) (fun h => h)
 have HB2 := Lib.hid hb2
 have HS2 := Lib.hid (box6 hb2)
 have HF2 := Lib.hid (HF1.out.then (((Fp.refl Non w1).drew).then f2))
 clear f2 hb2
 go_wp2_with fail
 refine hK.out _ _ HS2.out (fun hHeld => ?_)
 clear hK K
 try simp only [zP, zN, zS, zT, zU]
 refine tk 3 (v := ?_) hHeld (fun w hSw => ?_) ?_; rotate_left
 ·(try dsimp only at hSw); obtain ⟨s0, s1, s2, s3, s4, s5⟩ := hSw; go_simp; try with_reducible rfl
 try simp only [zP, zN, zS, zT, zU]
 refine tk 4 (v := ?_) hHeld (fun w hSw => ?_) ?_; rotate_left
 ·(try dsimp only at hSw); obtain ⟨s0, s1, s2, s3, s4, s5⟩ := hSw; go_simp; try with_reducible rfl
 try simp only [zP, zN, zS, zT, zU]
 refine wpAnyH_done (by kernel_rfl) ?_ _
 have s0 := HS2.out.1; have s1 := HS2.out.2.1; have s2 := HS2.out.2.2.1; have s3 := HS2.out.2.2.2.1; have s4 := HS2.out.2.2.2.2.1; have s5 := HS2.out.2.2.2.2.2
 have fz : ∀ j, w2.frozen? ⟨w.heap.size, j, none⟩ = false := fun j => by have := HB2.out; simp [World.frozen?, this]
 have z0 := fz 0; have z1 := fz 1; have z2 := fz 2; have z3 := fz 3; have z4 := fz 4; have z5 := fz 5
 clear fz
 have heq := eq_op
 clear hix
 cases bl <;> cases bv
 all_goals simp only [Bool.false_eq_true, eq_self] at q4 q5
 all_goals
  go_wp2_with (first
   | (go_at_call_of 80 v; refine (HV.out _).mono ?_; rintro e w1 ⟨rfl, rfl⟩)
   | (go_at_call_of 80 ow; refine (HO.out _).mono ?_; rintro e w1 ⟨rfl, rfl⟩))
  all_goals
   go_ret
   refine ⟨ret_bool ?_, ?_⟩
   ·rw [← HM.out]; unfold may; obtain ⟨g0, g1, g2, g3, g4, g5⟩ := HQ.out; clear HV HO HM HR HFI HBX HF1 HB1 HB2 HS2 HF2; by_cases hd : d = [] <;> by_cases hv0 : v = 0 <;> by_cases ho0 : ow = 0 <;> cases t <;> simp_all <;> omega
   ·first | exact HF2.out | (repeat (first | exact HF2.out | refine Fp.setCell ?_ (.inr (Nat.le_refl _)) _))
set_option maxHeartbeats 8000000 in
theorem May_4 (o : Opn) (w : World) (hp : (split o.path).isSome = true) (hl : o.path.length ≤ 1000000) (hk : o.kind = 4) :
  Calls Tryz.prog 37 #[opV o] w fun e w' => e = .returned (.bool (may o)) ∧ Fp Non w w' := by
 obtain ⟨k, p, d, v, ow, t⟩ := o
 obtain rfl : k = 4 := hk
 unfold opV strV
 have hr := fun w => Right_g p w (sz_of hl (by omega))
 obtain ⟨m, hm⟩ : ∃ m, may ⟨4, p, d, v, ow, t⟩ = m := ⟨_, rfl⟩
 rw [hm]
 rw [show (split p).isSome = true from hp] at hr
 obtain ⟨bv, h1⟩ : ∃ r, decide ((-1 : Int) ≤ v ∧ v ≤ 281474976710656) = r := ⟨_, rfl⟩
 obtain ⟨bo, h2⟩ : ∃ r, decide ((0 : Int) ≤ ow ∧ ow ≤ 1099511627776) = r := ⟨_, rfl⟩
 obtain ⟨br, h3⟩ : ∃ r, (p == [47]) = r := ⟨_, rfl⟩
 obtain ⟨bl, h4⟩ : ∃ r, decide (d.length ≤ 256) = r := ⟨_, rfl⟩
 obtain ⟨bz, h5⟩ : ∃ r, (ow == 0) = r := ⟨_, rfl⟩
 have HV := Lib.hid (fun w => within_d v (-1) 281474976710656 w bv h1)
 have HO := Lib.hid (fun w => within_d ow 0 1099511627776 w bo h2)
 have HM := Lib.hid hm
 have HR := Lib.hid hr
 have HFI := Lib.hid fields_c
 have HBX := Lib.hid (fun w => heap_alloc_new w (.cells #[.int .i64 4, .string (B p), .string (B d), .int .i64 v, .int .i64 ow, .bool t] TO_))
 have HQ := Lib.hid (And.intro hp (And.intro h1 (And.intro h2 (And.intro h3 (And.intro h4 h5)))))
 clear hm hr h1 h2 hp hl h3 h5 h4
 have hix := fields_at4
 go_enter Tryz.func37, Tryz.ntmps37
 go_wp2_with fail
 refine (HR.out _).mono ?_
 rintro e w1 ⟨rfl, g1⟩
 have hb1 := (Fp.of_below g1).heap (HBX.out w) (fun h => h)
 have HF1 := Lib.hid (((Fp.refl Non w).alloc _).then g1.fp)
 have HB1 := Lib.hid hb1
 clear g1 hb1
 go_wp2_with fail
 refine wp_region_held_drew (S := (fun w' => w'.cell? ⟨w.heap.size, 0, none⟩ = some ((.int .i64 4)) ∧ w'.cell? ⟨w.heap.size, 1, none⟩ = some (.string (B p)) ∧ w'.cell? ⟨w.heap.size, 2, none⟩ = some (.string (B d)) ∧ w'.cell? ⟨w.heap.size, 3, none⟩ = some (.int .i64 v) ∧ w'.cell? ⟨w.heap.size, 4, none⟩ = some (.int .i64 ow) ∧ w'.cell? ⟨w.heap.size, 5, none⟩ = some (.bool t))) (by kernel_rfl) ?_ (fun hHeld => ?_)
 ·exact box6 ((Fp.refl Non w1).drew.heap HB1.out (fun h => h))
 refine tk 1 (v := ?_) hHeld (fun w hSw => ?_) ?_; rotate_left
 ·(try dsimp only at hSw); obtain ⟨s0, s1, s2, s3, s4, s5⟩ := hSw; go_simp; try with_reducible rfl
 try simp only [zP, zN, zS, zT, zU]
 refine tk 2 (v := ?_) hHeld (fun w hSw => ?_) ?_; rotate_left
 ·(try dsimp only at hSw); obtain ⟨s0, s1, s2, s3, s4, s5⟩ := hSw; go_simp; try with_reducible rfl
 try simp only [zP, zN, zS, zT, zU]
 refine wpAnyH_ready (rs := [0]) (by kernel_rfl) (by simp) ?_
 refine AllReadyH.cons (o := ?ob123) ?hb123 (fun K hK => ?_) AllReadyH.nil
 case hb123 => simp only [zA, zB, zC] <;> exact rfl
 go_simp
 go_at_call 79
 refine (HFI.out _).mono ?_
 rintro e w2 ⟨rfl, f2⟩
 have hb2 := f2.heap (k := w.heap.size) ((Fp.refl Non w1).drew.heap HB1.out (fun h => h)) (fun h => h)
 have HB2 := Lib.hid hb2
 have HS2 := Lib.hid (box6 hb2)
 have HF2 := Lib.hid (HF1.out.then (((Fp.refl Non w1).drew).then f2))
 clear f2 hb2
 go_wp2_with fail
 refine hK.out _ _ HS2.out (fun hHeld => ?_)
 clear hK K
 try simp only [zP, zN, zS, zT, zU]
 refine tk 3 (v := ?_) hHeld (fun w hSw => ?_) ?_; rotate_left
 ·(try dsimp only at hSw); obtain ⟨s0, s1, s2, s3, s4, s5⟩ := hSw; go_simp; try with_reducible rfl
 try simp only [zP, zN, zS, zT, zU]
 refine tk 4 (v := ?_) hHeld (fun w hSw => ?_) ?_; rotate_left
 ·(try dsimp only at hSw); obtain ⟨s0, s1, s2, s3, s4, s5⟩ := hSw; go_simp; try with_reducible rfl
 try simp only [zP, zN, zS, zT, zU]
 refine wpAnyH_done (by kernel_rfl) ?_ _
 have s0 := HS2.out.1; have s1 := HS2.out.2.1; have s2 := HS2.out.2.2.1; have s3 := HS2.out.2.2.2.1; have s4 := HS2.out.2.2.2.2.1; have s5 := HS2.out.2.2.2.2.2
 have fz : ∀ j, w2.frozen? ⟨w.heap.size, j, none⟩ = false := fun j => by have := HB2.out; simp [World.frozen?, this]
 have z0 := fz 0; have z1 := fz 1; have z2 := fz 2; have z3 := fz 3; have z4 := fz 4; have z5 := fz 5
 clear fz
 have heq := eq_op
 clear hix
 cases bv
 all_goals
  go_wp2_with (first
   | (go_at_call_of 80 v; refine (HV.out _).mono ?_; rintro e w1 ⟨rfl, rfl⟩)
   | (go_at_call_of 80 ow; refine (HO.out _).mono ?_; rintro e w1 ⟨rfl, rfl⟩))
  all_goals
   go_ret
   refine ⟨ret_bool ?_, ?_⟩
   ·rw [← HM.out]; unfold may; obtain ⟨g0, g1, g2, g3, g4, g5⟩ := HQ.out; clear HV HO HM HR HFI HBX HF1 HB1 HB2 HS2 HF2; by_cases hd : d = [] <;> by_cases hv0 : v = 0 <;> by_cases ho0 : ow = 0 <;> cases t <;> simp_all <;> omega
   ·first | exact HF2.out | (repeat (first | exact HF2.out | refine Fp.setCell ?_ (.inr (Nat.le_refl _)) _))
set_option maxHeartbeats 8000000 in
theorem May_5 (o : Opn) (w : World) (hp : (split o.path).isSome = true) (hl : o.path.length ≤ 1000000) (hk : o.kind = 5) :
  Calls Tryz.prog 37 #[opV o] w fun e w' => e = .returned (.bool (may o)) ∧ Fp Non w w' := by
 obtain ⟨k, p, d, v, ow, t⟩ := o
 obtain rfl : k = 5 := hk
 unfold opV strV
 have hr := fun w => Right_g p w (sz_of hl (by omega))
 obtain ⟨m, hm⟩ : ∃ m, may ⟨5, p, d, v, ow, t⟩ = m := ⟨_, rfl⟩
 rw [hm]
 rw [show (split p).isSome = true from hp] at hr
 obtain ⟨bv, h1⟩ : ∃ r, decide ((-1 : Int) ≤ v ∧ v ≤ 281474976710656) = r := ⟨_, rfl⟩
 obtain ⟨bo, h2⟩ : ∃ r, decide ((0 : Int) ≤ ow ∧ ow ≤ 1099511627776) = r := ⟨_, rfl⟩
 obtain ⟨br, h3⟩ : ∃ r, (p == [47]) = r := ⟨_, rfl⟩
 obtain ⟨bl, h4⟩ : ∃ r, decide (d.length ≤ 256) = r := ⟨_, rfl⟩
 obtain ⟨bz, h5⟩ : ∃ r, (ow == 0) = r := ⟨_, rfl⟩
 have HV := Lib.hid (fun w => within_d v (-1) 281474976710656 w bv h1)
 have HO := Lib.hid (fun w => within_d ow 0 1099511627776 w bo h2)
 have HM := Lib.hid hm
 have HR := Lib.hid hr
 have HFI := Lib.hid fields_c
 have HBX := Lib.hid (fun w => heap_alloc_new w (.cells #[.int .i64 5, .string (B p), .string (B d), .int .i64 v, .int .i64 ow, .bool t] TO_))
 have HQ := Lib.hid (And.intro hp (And.intro h1 (And.intro h2 (And.intro h3 (And.intro h4 h5)))))
 clear hm hr h1 h2 hp hl h3 h5 h4
 have hix := fields_at5
 go_enter Tryz.func37, Tryz.ntmps37
 go_wp2_with fail
 refine (HR.out _).mono ?_
 rintro e w1 ⟨rfl, g1⟩
 have hb1 := (Fp.of_below g1).heap (HBX.out w) (fun h => h)
 have HF1 := Lib.hid (((Fp.refl Non w).alloc _).then g1.fp)
 have HB1 := Lib.hid hb1
 clear g1 hb1
 go_wp2_with fail
 refine wp_region_held_drew (S := (fun w' => w'.cell? ⟨w.heap.size, 0, none⟩ = some ((.int .i64 5)) ∧ w'.cell? ⟨w.heap.size, 1, none⟩ = some (.string (B p)) ∧ w'.cell? ⟨w.heap.size, 2, none⟩ = some (.string (B d)) ∧ w'.cell? ⟨w.heap.size, 3, none⟩ = some (.int .i64 v) ∧ w'.cell? ⟨w.heap.size, 4, none⟩ = some (.int .i64 ow) ∧ w'.cell? ⟨w.heap.size, 5, none⟩ = some (.bool t))) (by kernel_rfl) ?_ (fun hHeld => ?_)
 ·exact box6 ((Fp.refl Non w1).drew.heap HB1.out (fun h => h))
 refine tk 1 (v := ?_) hHeld (fun w hSw => ?_) ?_; rotate_left
 ·(try dsimp only at hSw); obtain ⟨s0, s1, s2, s3, s4, s5⟩ := hSw; go_simp; try with_reducible rfl
 try simp only [zP, zN, zS, zT, zU]
 refine tk 2 (v := ?_) hHeld (fun w hSw => ?_) ?_; rotate_left
 ·(try dsimp only at hSw); obtain ⟨s0, s1, s2, s3, s4, s5⟩ := hSw; go_simp; try with_reducible rfl
 try simp only [zP, zN, zS, zT, zU]
 refine wpAnyH_ready (rs := [0]) (by kernel_rfl) (by simp) ?_
 refine AllReadyH.cons (o := ?ob128) ?hb128 (fun K hK => ?_) AllReadyH.nil
 case hb128 => simp only [zA, zB, zC] <;> exact rfl
 go_simp
 go_at_call 79
 refine (HFI.out _).mono ?_
 rintro e w2 ⟨rfl, f2⟩
 have hb2 := f2.heap (k := w.heap.size) ((Fp.refl Non w1).drew.heap HB1.out (fun h => h)) (fun h => h)
 have HB2 := Lib.hid hb2
 have HS2 := Lib.hid (box6 hb2)
 have HF2 := Lib.hid (HF1.out.then (((Fp.refl Non w1).drew).then f2))
 clear f2 hb2
 go_wp2_with fail
 refine hK.out _ _ HS2.out (fun hHeld => ?_)
 clear hK K
 try simp only [zP, zN, zS, zT, zU]
 refine tk 3 (v := ?_) hHeld (fun w hSw => ?_) ?_; rotate_left
 ·(try dsimp only at hSw); obtain ⟨s0, s1, s2, s3, s4, s5⟩ := hSw; go_simp; try with_reducible rfl
 try simp only [zP, zN, zS, zT, zU]
 refine tk 4 (v := ?_) hHeld (fun w hSw => ?_) ?_; rotate_left
 ·(try dsimp only at hSw); obtain ⟨s0, s1, s2, s3, s4, s5⟩ := hSw; go_simp; try with_reducible rfl
 try simp only [zP, zN, zS, zT, zU]
 refine wpAnyH_done (by kernel_rfl) ?_ _
 have s0 := HS2.out.1; have s1 := HS2.out.2.1; have s2 := HS2.out.2.2.1; have s3 := HS2.out.2.2.2.1; have s4 := HS2.out.2.2.2.2.1; have s5 := HS2.out.2.2.2.2.2
 have fz : ∀ j, w2.frozen? ⟨w.heap.size, j, none⟩ = false := fun j => by have := HB2.out; simp [World.frozen?, this]
 have z0 := fz 0; have z1 := fz 1; have z2 := fz 2; have z3 := fz 3; have z4 := fz 4; have z5 := fz 5
 clear fz
 have heq := eq_op
 clear hix
 go_wp2_with (first
  | (go_at_call_of 80 v; refine (HV.out _).mono ?_; rintro e w1 ⟨rfl, rfl⟩)
  | (go_at_call_of 80 ow; refine (HO.out _).mono ?_; rintro e w1 ⟨rfl, rfl⟩))
 all_goals
  go_ret
  refine ⟨ret_bool ?_, ?_⟩
  ·rw [← HM.out]; unfold may; obtain ⟨g0, g1, g2, g3, g4, g5⟩ := HQ.out; clear HV HO HM HR HFI HBX HF1 HB1 HB2 HS2 HF2; by_cases hd : d = [] <;> by_cases hv0 : v = 0 <;> by_cases ho0 : ow = 0 <;> cases t <;> simp_all <;> omega
  ·first | exact HF2.out | (repeat (first | exact HF2.out | refine Fp.setCell ?_ (.inr (Nat.le_refl _)) _))
set_option maxHeartbeats 8000000 in
theorem May_6 (o : Opn) (w : World) (hp : (split o.path).isSome = true) (hl : o.path.length ≤ 1000000) (hk : o.kind = 6) :
  Calls Tryz.prog 37 #[opV o] w fun e w' => e = .returned (.bool (may o)) ∧ Fp Non w w' := by
 obtain ⟨k, p, d, v, ow, t⟩ := o
 obtain rfl : k = 6 := hk
 unfold opV strV
 have hr := fun w => Right_g p w (sz_of hl (by omega))
 obtain ⟨m, hm⟩ : ∃ m, may ⟨6, p, d, v, ow, t⟩ = m := ⟨_, rfl⟩
 rw [hm]
 rw [show (split p).isSome = true from hp] at hr
 obtain ⟨bv, h1⟩ : ∃ r, decide ((-1 : Int) ≤ v ∧ v ≤ 281474976710656) = r := ⟨_, rfl⟩
 obtain ⟨bo, h2⟩ : ∃ r, decide ((0 : Int) ≤ ow ∧ ow ≤ 1099511627776) = r := ⟨_, rfl⟩
 obtain ⟨br, h3⟩ : ∃ r, (p == [47]) = r := ⟨_, rfl⟩
 obtain ⟨bl, h4⟩ : ∃ r, decide (d.length ≤ 256) = r := ⟨_, rfl⟩
 obtain ⟨bz, h5⟩ : ∃ r, (ow == 0) = r := ⟨_, rfl⟩
 have HV := Lib.hid (fun w => within_d v (-1) 281474976710656 w bv h1)
 have HO := Lib.hid (fun w => within_d ow 0 1099511627776 w bo h2)
 have HM := Lib.hid hm
 have HR := Lib.hid hr
 have HFI := Lib.hid fields_c
 have HBX := Lib.hid (fun w => heap_alloc_new w (.cells #[.int .i64 6, .string (B p), .string (B d), .int .i64 v, .int .i64 ow, .bool t] TO_))
 have HQ := Lib.hid (And.intro hp (And.intro h1 (And.intro h2 (And.intro h3 (And.intro h4 h5)))))
 clear hm hr h1 h2 hp hl h3 h5 h4
 have hix := fields_at6
 go_enter Tryz.func37, Tryz.ntmps37
 go_wp2_with fail
 refine (HR.out _).mono ?_
 rintro e w1 ⟨rfl, g1⟩
 have hb1 := (Fp.of_below g1).heap (HBX.out w) (fun h => h)
 have HF1 := Lib.hid (((Fp.refl Non w).alloc _).then g1.fp)
 have HB1 := Lib.hid hb1
 clear g1 hb1
 go_wp2_with fail
 refine wp_region_held_drew (S := (fun w' => w'.cell? ⟨w.heap.size, 0, none⟩ = some ((.int .i64 6)) ∧ w'.cell? ⟨w.heap.size, 1, none⟩ = some (.string (B p)) ∧ w'.cell? ⟨w.heap.size, 2, none⟩ = some (.string (B d)) ∧ w'.cell? ⟨w.heap.size, 3, none⟩ = some (.int .i64 v) ∧ w'.cell? ⟨w.heap.size, 4, none⟩ = some (.int .i64 ow) ∧ w'.cell? ⟨w.heap.size, 5, none⟩ = some (.bool t))) (by kernel_rfl) ?_ (fun hHeld => ?_)
 ·exact box6 ((Fp.refl Non w1).drew.heap HB1.out (fun h => h))
 refine tk 1 (v := ?_) hHeld (fun w hSw => ?_) ?_; rotate_left
 ·(try dsimp only at hSw); obtain ⟨s0, s1, s2, s3, s4, s5⟩ := hSw; go_simp; try with_reducible rfl
 try simp only [zP, zN, zS, zT, zU]
 refine tk 2 (v := ?_) hHeld (fun w hSw => ?_) ?_; rotate_left
 ·(try dsimp only at hSw); obtain ⟨s0, s1, s2, s3, s4, s5⟩ := hSw; go_simp; try with_reducible rfl
 try simp only [zP, zN, zS, zT, zU]
 refine wpAnyH_ready (rs := [0]) (by kernel_rfl) (by simp) ?_
 refine AllReadyH.cons (o := ?ob133) ?hb133 (fun K hK => ?_) AllReadyH.nil
 case hb133 => simp only [zA, zB, zC] <;> exact rfl
 go_simp
 go_at_call 79
 refine (HFI.out _).mono ?_
 rintro e w2 ⟨rfl, f2⟩
 have hb2 := f2.heap (k := w.heap.size) ((Fp.refl Non w1).drew.heap HB1.out (fun h => h)) (fun h => h)
 have HB2 := Lib.hid hb2
 have HS2 := Lib.hid (box6 hb2)
 have HF2 := Lib.hid (HF1.out.then (((Fp.refl Non w1).drew).then f2))
 clear f2 hb2
 go_wp2_with fail
 refine hK.out _ _ HS2.out (fun hHeld => ?_)
 clear hK K
 try simp only [zP, zN, zS, zT, zU]
 refine tk 3 (v := ?_) hHeld (fun w hSw => ?_) ?_; rotate_left
 ·(try dsimp only at hSw); obtain ⟨s0, s1, s2, s3, s4, s5⟩ := hSw; go_simp; try with_reducible rfl
 try simp only [zP, zN, zS, zT, zU]
 refine tk 4 (v := ?_) hHeld (fun w hSw => ?_) ?_; rotate_left
 ·(try dsimp only at hSw); obtain ⟨s0, s1, s2, s3, s4, s5⟩ := hSw; go_simp; try with_reducible rfl
 try simp only [zP, zN, zS, zT, zU]
 refine wpAnyH_done (by kernel_rfl) ?_ _
 have s0 := HS2.out.1; have s1 := HS2.out.2.1; have s2 := HS2.out.2.2.1; have s3 := HS2.out.2.2.2.1; have s4 := HS2.out.2.2.2.2.1; have s5 := HS2.out.2.2.2.2.2
 have fz : ∀ j, w2.frozen? ⟨w.heap.size, j, none⟩ = false := fun j => by have := HB2.out; simp [World.frozen?, this]
 have z0 := fz 0; have z1 := fz 1; have z2 := fz 2; have z3 := fz 3; have z4 := fz 4; have z5 := fz 5
 clear fz
 have heq := eq_op
 clear hix
 go_wp2_with (first
  | (go_at_call_of 80 v; refine (HV.out _).mono ?_; rintro e w1 ⟨rfl, rfl⟩)
  | (go_at_call_of 80 ow; refine (HO.out _).mono ?_; rintro e w1 ⟨rfl, rfl⟩))
 all_goals
  go_ret
  refine ⟨ret_bool ?_, ?_⟩
  ·rw [← HM.out]; unfold may; obtain ⟨g0, g1, g2, g3, g4, g5⟩ := HQ.out; clear HV HO HM HR HFI HBX HF1 HB1 HB2 HS2 HF2; by_cases hd : d = [] <;> by_cases hv0 : v = 0 <;> by_cases ho0 : ow = 0 <;> cases t <;> simp_all <;> omega
  ·first | exact HF2.out | (repeat (first | exact HF2.out | refine Fp.setCell ?_ (.inr (Nat.le_refl _)) _))
set_option maxHeartbeats 8000000 in
theorem May_7 (o : Opn) (w : World) (hp : (split o.path).isSome = true) (hl : o.path.length ≤ 1000000) (hk : o.kind = 7) :
  Calls Tryz.prog 37 #[opV o] w fun e w' => e = .returned (.bool (may o)) ∧ Fp Non w w' := by
 obtain ⟨k, p, d, v, ow, t⟩ := o
 obtain rfl : k = 7 := hk
 unfold opV strV
 have hr := fun w => Right_g p w (sz_of hl (by omega))
 obtain ⟨m, hm⟩ : ∃ m, may ⟨7, p, d, v, ow, t⟩ = m := ⟨_, rfl⟩
 rw [hm]
 rw [show (split p).isSome = true from hp] at hr
 obtain ⟨bv, h1⟩ : ∃ r, decide ((-1 : Int) ≤ v ∧ v ≤ 281474976710656) = r := ⟨_, rfl⟩
 obtain ⟨bo, h2⟩ : ∃ r, decide ((0 : Int) ≤ ow ∧ ow ≤ 1099511627776) = r := ⟨_, rfl⟩
 obtain ⟨br, h3⟩ : ∃ r, (p == [47]) = r := ⟨_, rfl⟩
 obtain ⟨bl, h4⟩ : ∃ r, decide (d.length ≤ 256) = r := ⟨_, rfl⟩
 obtain ⟨bz, h5⟩ : ∃ r, (ow == 0) = r := ⟨_, rfl⟩
 have HV := Lib.hid (fun w => within_d v (-1) 281474976710656 w bv h1)
 have HO := Lib.hid (fun w => within_d ow 0 1099511627776 w bo h2)
 have HM := Lib.hid hm
 have HR := Lib.hid hr
 have HFI := Lib.hid fields_c
 have HBX := Lib.hid (fun w => heap_alloc_new w (.cells #[.int .i64 7, .string (B p), .string (B d), .int .i64 v, .int .i64 ow, .bool t] TO_))
 have HQ := Lib.hid (And.intro hp (And.intro h1 (And.intro h2 (And.intro h3 (And.intro h4 h5)))))
 clear hm hr h1 h2 hp hl h3 h4
 have hix := fields_at7
 go_enter Tryz.func37, Tryz.ntmps37
 go_wp2_with fail
 refine (HR.out _).mono ?_
 rintro e w1 ⟨rfl, g1⟩
 have hb1 := (Fp.of_below g1).heap (HBX.out w) (fun h => h)
 have HF1 := Lib.hid (((Fp.refl Non w).alloc _).then g1.fp)
 have HB1 := Lib.hid hb1
 clear g1 hb1
 go_wp2_with fail
 refine wp_region_held_drew (S := (fun w' => w'.cell? ⟨w.heap.size, 0, none⟩ = some ((.int .i64 7)) ∧ w'.cell? ⟨w.heap.size, 1, none⟩ = some (.string (B p)) ∧ w'.cell? ⟨w.heap.size, 2, none⟩ = some (.string (B d)) ∧ w'.cell? ⟨w.heap.size, 3, none⟩ = some (.int .i64 v) ∧ w'.cell? ⟨w.heap.size, 4, none⟩ = some (.int .i64 ow) ∧ w'.cell? ⟨w.heap.size, 5, none⟩ = some (.bool t))) (by kernel_rfl) ?_ (fun hHeld => ?_)
 ·exact box6 ((Fp.refl Non w1).drew.heap HB1.out (fun h => h))
 refine tk 1 (v := ?_) hHeld (fun w hSw => ?_) ?_; rotate_left
 ·(try dsimp only at hSw); obtain ⟨s0, s1, s2, s3, s4, s5⟩ := hSw; go_simp; try with_reducible rfl
 try simp only [zP, zN, zS, zT, zU]
 refine tk 2 (v := ?_) hHeld (fun w hSw => ?_) ?_; rotate_left
 ·(try dsimp only at hSw); obtain ⟨s0, s1, s2, s3, s4, s5⟩ := hSw; go_simp; try with_reducible rfl
 try simp only [zP, zN, zS, zT, zU]
 refine wpAnyH_ready (rs := [0]) (by kernel_rfl) (by simp) ?_
 refine AllReadyH.cons (o := ?ob138) ?hb138 (fun K hK => ?_) AllReadyH.nil
 case hb138 => simp only [zA, zB, zC] <;> exact rfl
 go_simp
 go_at_call 79
 refine (HFI.out _).mono ?_
 rintro e w2 ⟨rfl, f2⟩
 have hb2 := f2.heap (k := w.heap.size) ((Fp.refl Non w1).drew.heap HB1.out (fun h => h)) (fun h => h)
 have HB2 := Lib.hid hb2
 have HS2 := Lib.hid (box6 hb2)
 have HF2 := Lib.hid (HF1.out.then (((Fp.refl Non w1).drew).then f2))
 clear f2 hb2
 go_wp2_with fail
 refine hK.out _ _ HS2.out (fun hHeld => ?_)
 clear hK K
 try simp only [zP, zN, zS, zT, zU]
 refine tk 3 (v := ?_) hHeld (fun w hSw => ?_) ?_; rotate_left
 ·(try dsimp only at hSw); obtain ⟨s0, s1, s2, s3, s4, s5⟩ := hSw; go_simp; try with_reducible rfl
 try simp only [zP, zN, zS, zT, zU]
 refine tk 4 (v := ?_) hHeld (fun w hSw => ?_) ?_; rotate_left
 ·(try dsimp only at hSw); obtain ⟨s0, s1, s2, s3, s4, s5⟩ := hSw; go_simp; try with_reducible rfl
 try simp only [zP, zN, zS, zT, zU]
 refine wpAnyH_done (by kernel_rfl) ?_ _
 have s0 := HS2.out.1; have s1 := HS2.out.2.1; have s2 := HS2.out.2.2.1; have s3 := HS2.out.2.2.2.1; have s4 := HS2.out.2.2.2.2.1; have s5 := HS2.out.2.2.2.2.2
 have fz : ∀ j, w2.frozen? ⟨w.heap.size, j, none⟩ = false := fun j => by have := HB2.out; simp [World.frozen?, this]
 have z0 := fz 0; have z1 := fz 1; have z2 := fz 2; have z3 := fz 3; have z4 := fz 4; have z5 := fz 5
 clear fz
 have heq := eq_op
 clear hix
 cases bo <;> cases bz
 all_goals
  go_wp2_with (first
   | (go_at_call_of 80 v; refine (HV.out _).mono ?_; rintro e w1 ⟨rfl, rfl⟩)
   | (go_at_call_of 80 ow; refine (HO.out _).mono ?_; rintro e w1 ⟨rfl, rfl⟩))
  all_goals
   go_ret
   refine ⟨ret_bool ?_, ?_⟩
   ·rw [← HM.out]; unfold may; obtain ⟨g0, g1, g2, g3, g4, g5⟩ := HQ.out; clear HV HO HM HR HFI HBX HF1 HB1 HB2 HS2 HF2; by_cases hd : d = [] <;> by_cases hv0 : v = 0 <;> by_cases ho0 : ow = 0 <;> cases t <;> simp_all <;> omega
   ·first | exact HF2.out | (repeat (first | exact HF2.out | refine Fp.setCell ?_ (.inr (Nat.le_refl _)) _))
end Go.Proofs.YtphoglepiegeiaaGreatDoor
namespace Go.Proofs.YtphoglepiegeiaaGreatDoor
set_option maxRecDepth 20000
set_option linter.unusedVariables false
set_option linter.unusedSimpArgs false
open Go.RowKit Pm
theorem may_kind_false {o : Opn} (h : ¬ (1 ≤ o.kind ∧ o.kind ≤ 7)) : may o = false := by
 cases hm : may o with
 | false => rfl
 | true => have := may_kind hm; omega
theorem may_split_false {o : Opn} (h : (split o.path).isSome = false) : may o = false := by
 cases hm : may o with
 | false => rfl
 | true => rw [may_split hm] at h; cases h
set_option maxHeartbeats 2000000 in
theorem May_c (o : Opn) (w : World) (hl : o.path.length ≤ 1000000) :
  Calls Tryz.prog 37 #[opV o] w fun e w' => e = .returned (.bool (may o)) ∧ Fp Non w w' := by
 by_cases hk : 1 ≤ o.kind ∧ o.kind ≤ 7
 ·cases hs : (split o.path).isSome with
  | true =>
   rcases (show o.kind = 1 ∨ o.kind = 2 ∨ o.kind = 3 ∨ o.kind = 4 ∨ o.kind = 5 ∨ o.kind = 6 ∨ o.kind = 7 by omega) with k | k | k | k | k | k | k
   ·exact May_1 o w hs hl k
   ·exact May_2 o w hs hl k
   ·exact May_3 o w hs hl k
   ·exact May_4 o w hs hl k
   ·exact May_5 o w hs hl k
   ·exact May_6 o w hs hl k
   ·exact May_7 o w hs hl k
  | false =>
   rw [may_split_false hs]
   obtain ⟨k, p, d, v, ow, t⟩ := o
   unfold opV strV
   have hr := fun w => Right_g p w (sz_of hl (by omega))
   rw [show (split p).isSome = false from hs] at hr
   have HR := Lib.hid hr
   have q1 : (k < 1) = False := eq_false (by have := hk.1; simp at this; omega)
   have q2 : ((8 : Int) ≤ k) = False := eq_false (by have := hk.2; simp at this; omega)
   clear hr hs hl hk
   go_enter Tryz.func37, Tryz.ntmps37
   go_wp2_with fail
   refine (HR.out _).mono ?_
   rintro e w1 ⟨rfl, g1⟩
   have HF := Lib.hid (((Fp.refl Non w).alloc (.cells #[.int .i64 k, .string (B p), .string (B d), .int .i64 v, .int .i64 ow, .bool t] TO_)).then g1.fp)
   clear g1
   go_wp2
   go_ret
   exact ⟨rfl, HF.out⟩
 ·rw [may_kind_false hk]
  obtain ⟨k, p, d, v, ow, t⟩ := o
  unfold opV strV
  by_cases h1 : k < 1
  ·have q1 : (k < 1) = True := eq_true h1
   clear hk hl h1
   go_enter Tryz.func37, Tryz.ntmps37
   go_wp2
   go_ret
   exact ⟨rfl, (Fp.refl Non w).alloc _⟩
  ·have q1 : (k < 1) = False := eq_false h1
   have q2 : ((8 : Int) ≤ k) = True := eq_true (by have : ¬ (1 ≤ k ∧ k ≤ 7) := hk; omega)
   clear hk hl h1
   go_enter Tryz.func37, Tryz.ntmps37
   go_wp2
   go_ret
   exact ⟨rfl, (Fp.refl Non w).alloc _⟩
end Go.Proofs.YtphoglepiegeiaaGreatDoor
