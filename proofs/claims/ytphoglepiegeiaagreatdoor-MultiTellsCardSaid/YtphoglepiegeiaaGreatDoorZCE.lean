/- A text of this proof. -/
import Derived.Test.YtphoglepiegeiaaGreatDoorZCB
import Derived.Test.YtphoglepiegeiaaGreatDoorZCC
import Derived.Test.YtphoglepiegeiaaGreatDoorZCD
set_option linter.unusedSimpArgs false
set_option linter.unusedVariables false
namespace Go.Proofs.YtphoglepiegeiaaGreatDoor
set_option maxRecDepth 20000
open Go.RowKit Pm
set_option maxHeartbeats 8000000 in
theorem May_1 (o : Opn) (w : World) (hp : (split o.path).isSome = true) (hl : o.path.length ≤ 1000000) (hk : o.kind = 1) :
  Calls Tryz.prog 37 #[opV o] w fun e w' => e = .returned (.bool (may o)) ∧ Fp Non w w' := by
 obtain ⟨k, p, d, v, ow, t⟩ := o
 obtain rfl : k = 1 := hk
 unfold opV strV
 have hr := fun w => Right_g p w (sz_of hl (by omega))
 obtain ⟨m, hm⟩ : ∃ m, may ⟨1, p, d, v, ow, t⟩ = m := ⟨_, rfl⟩
 rw [hm]
 rw [show (split p).isSome = true from hp] at hr
 obtain ⟨bv, h1⟩ : ∃ r, decide ((-1 : Int) ≤ v ∧ v ≤ 281474976710656) = r := ⟨_, rfl⟩
 obtain ⟨bo, h2⟩ : ∃ r, decide ((0 : Int) ≤ ow ∧ ow ≤ 1099511627776) = r := ⟨_, rfl⟩
 obtain ⟨br, h3⟩ : ∃ r, (p == [47]) = r := ⟨_, rfl⟩
 obtain ⟨bl, h4⟩ : ∃ r, decide (d.length ≤ 256) = r := ⟨_, rfl⟩
 obtain ⟨bz, h5⟩ : ∃ r, (ow == 0) = r := ⟨_, rfl⟩
 have HV := zI (fun w => within_d v (-1) 281474976710656 w bv h1)
 have HO := zI (fun w => within_d ow 0 1099511627776 w bo h2)
 have HM := zI hm
 have HR := zI hr
 have HFI := zI fields_c
 have HBX := zI (fun w => heap_alloc_new w (.cells #[.int .i64 1, .string (B p), .string (B d), .int .i64 v, .int .i64 ow, .bool t] TO_))
 have HQ := zI (yI hp (yI h1 (yI h2 (yI h3 (yI h4 h5)))))
 have q4 : (((d.length : Int) ≤ 256) = (bl = true)) := by rw [← h4]; simp; omega
 have q5 : ((d.length ≤ 256) = (bl = true)) := by rw [← h4]; simp
 clear hm hr h1 h2 hp hl h5 h4
 have hix := fields_at1
 go_enter Tryz.func37, Tryz.ntmps37
 go_wp2_with fail
 refine (HR.out _).mono ?_
 rintro e w1 ⟨rfl, g1⟩
 have hb1 := (Fp.of_below g1).heap (HBX.out w) id
 have HF1 := zI (((Fp.refl Non w).alloc _).then g1.fp)
 have HB1 := zI hb1
 clear g1 hb1
 go_wp2_with fail
 refine wp_region_held_drew (S := (fun w' => w'.cell? ⟨w.heap.size, 0, none⟩ = some ((.int .i64 1)) ∧ w'.cell? ⟨w.heap.size, 1, none⟩ = some (.string (B p)) ∧ w'.cell? ⟨w.heap.size, 2, none⟩ = some (.string (B d)) ∧ w'.cell? ⟨w.heap.size, 3, none⟩ = some (.int .i64 v) ∧ w'.cell? ⟨w.heap.size, 4, none⟩ = some (.int .i64 ow) ∧ w'.cell? ⟨w.heap.size, 5, none⟩ = some (.bool t))) (by kernel_rfl) ?_ (fun hH => ?_)
 ·exact box6 ((Fp.refl Non w1).drew.heap HB1.out id)
 refine tk 1 hH ?_
 refine tk 2 hH ?_
 refine rY 0 fun K hK => ?_
 go_simp
 go_at_call 79
 refine (HFI.out _).mono ?_
 rintro e w2 ⟨rfl, f2⟩
 have hb2 := f2.heap (k := w.heap.size) ((Fp.refl Non w1).drew.heap HB1.out id) id
 have HB2 := zI hb2
 have HS2 := zI (box6 hb2)
 have HF2 := zI (HF1.out.then (((Fp.refl Non w1).drew).then f2))
 clear f2 hb2
 go_wp2_with fail
 refine hK.out _ _ HS2.out (fun hH => ?_)
 clear hK K
 try simp only [zz]
 refine tk 3 hH ?_
 refine tk 4 hH ?_
 refine dn ?_
 have s0 := HS2.out.1; have s1 := HS2.out.2.1; have s2 := HS2.out.2.2.1; have s3 := HS2.out.2.2.2.1; have s4 := HS2.out.2.2.2.2.1; have s5 := HS2.out.2.2.2.2.2
 have fz : ∀ j, w2.frozen? ⟨w.heap.size, j, none⟩ = false := fun j => by have := HB2.out; simp [World.frozen?, this]
 have z0 := fz 0; have z1 := fz 1; have z2 := fz 2; have z3 := fz 3; have z4 := fz 4; have z5 := fz 5
 clear fz
 have heq := eq_op
 clear hix
 cases br <;> cases bl <;> cases bo
 all_goals simp only [Bool.false_eq_true, eq_self] at q4 q5
 all_goals
  go_wp2_with (first
   | (go_at_call_of 80 v; refine (HV.out _).mono ?_; rintro e w1 ⟨rfl, rfl⟩)
   | (go_at_call_of 80 ow; refine (HO.out _).mono ?_; rintro e w1 ⟨rfl, rfl⟩))
  all_goals
   go_ret
   refine ⟨ret_bool ?_, ?_⟩
   ·rw [← HM.out]; unfold may; obtain ⟨g0, g1, g2, g3, g4, g5⟩ := HQ.out; clear HV HO HM HR HFI HBX HF1 HB1 HB2 HS2 HF2; by_cases hd : d = [] <;> by_cases hv0 : v = 0 <;> by_cases ho0 : ow = 0 <;> cases t <;> simp_all <;> omega
   first | exact HF2.out | (repeat (first | exact HF2.out | refine Fp.setCell ?_ (.inr (Nat.le_refl _)) _))
set_option maxHeartbeats 8000000 in
theorem May_2 (o : Opn) (w : World) (hp : (split o.path).isSome = true) (hl : o.path.length ≤ 1000000) (hk : o.kind = 2) :
  Calls Tryz.prog 37 #[opV o] w fun e w' => e = .returned (.bool (may o)) ∧ Fp Non w w' := by
 obtain ⟨k, p, d, v, ow, t⟩ := o
 obtain rfl : k = 2 := hk
 unfold opV strV
 have hr := fun w => Right_g p w (sz_of hl (by omega))
 obtain ⟨m, hm⟩ : ∃ m, may ⟨2, p, d, v, ow, t⟩ = m := ⟨_, rfl⟩
 rw [hm]
 rw [show (split p).isSome = true from hp] at hr
 obtain ⟨bv, h1⟩ : ∃ r, decide ((-1 : Int) ≤ v ∧ v ≤ 281474976710656) = r := ⟨_, rfl⟩
 obtain ⟨bo, h2⟩ : ∃ r, decide ((0 : Int) ≤ ow ∧ ow ≤ 1099511627776) = r := ⟨_, rfl⟩
 obtain ⟨br, h3⟩ : ∃ r, (p == [47]) = r := ⟨_, rfl⟩
 obtain ⟨bl, h4⟩ : ∃ r, decide (d.length ≤ 256) = r := ⟨_, rfl⟩
 obtain ⟨bz, h5⟩ : ∃ r, (ow == 0) = r := ⟨_, rfl⟩
 have HV := zI (fun w => within_d v (-1) 281474976710656 w bv h1)
 have HO := zI (fun w => within_d ow 0 1099511627776 w bo h2)
 have HM := zI hm
 have HR := zI hr
 have HFI := zI fields_c
 have HBX := zI (fun w => heap_alloc_new w (.cells #[.int .i64 2, .string (B p), .string (B d), .int .i64 v, .int .i64 ow, .bool t] TO_))
 have HQ := zI (yI hp (yI h1 (yI h2 (yI h3 (yI h4 h5)))))
 clear hm hr h1 h2 hp hl h5 h4
 have hix := fields_at2
 go_enter Tryz.func37, Tryz.ntmps37
 go_wp2_with fail
 refine (HR.out _).mono ?_
 rintro e w1 ⟨rfl, g1⟩
 have hb1 := (Fp.of_below g1).heap (HBX.out w) id
 have HF1 := zI (((Fp.refl Non w).alloc _).then g1.fp)
 have HB1 := zI hb1
 clear g1 hb1
 go_wp2_with fail
 refine wp_region_held_drew (S := (fun w' => w'.cell? ⟨w.heap.size, 0, none⟩ = some ((.int .i64 2)) ∧ w'.cell? ⟨w.heap.size, 1, none⟩ = some (.string (B p)) ∧ w'.cell? ⟨w.heap.size, 2, none⟩ = some (.string (B d)) ∧ w'.cell? ⟨w.heap.size, 3, none⟩ = some (.int .i64 v) ∧ w'.cell? ⟨w.heap.size, 4, none⟩ = some (.int .i64 ow) ∧ w'.cell? ⟨w.heap.size, 5, none⟩ = some (.bool t))) (by kernel_rfl) ?_ (fun hH => ?_)
 ·exact box6 ((Fp.refl Non w1).drew.heap HB1.out id)
 refine tk 1 hH ?_
 refine tk 2 hH ?_
 refine rY 0 fun K hK => ?_
 go_simp
 go_at_call 79
 refine (HFI.out _).mono ?_
 rintro e w2 ⟨rfl, f2⟩
 have hb2 := f2.heap (k := w.heap.size) ((Fp.refl Non w1).drew.heap HB1.out id) id
 have HB2 := zI hb2
 have HS2 := zI (box6 hb2)
 have HF2 := zI (HF1.out.then (((Fp.refl Non w1).drew).then f2))
 clear f2 hb2
 go_wp2_with fail
 refine hK.out _ _ HS2.out (fun hH => ?_)
 clear hK K
 try simp only [zz]
 refine tk 3 hH ?_
 refine tk 4 hH ?_
 refine dn ?_
 have s0 := HS2.out.1; have s1 := HS2.out.2.1; have s2 := HS2.out.2.2.1; have s3 := HS2.out.2.2.2.1; have s4 := HS2.out.2.2.2.2.1; have s5 := HS2.out.2.2.2.2.2
 have fz : ∀ j, w2.frozen? ⟨w.heap.size, j, none⟩ = false := fun j => by have := HB2.out; simp [World.frozen?, this]
 have z0 := fz 0; have z1 := fz 1; have z2 := fz 2; have z3 := fz 3; have z4 := fz 4; have z5 := fz 5
 clear fz
 have heq := eq_op
 clear hix
 cases br <;> cases bv
 all_goals
  go_wp2_with (first
   | (go_at_call_of 80 v; refine (HV.out _).mono ?_; rintro e w1 ⟨rfl, rfl⟩)
   | (go_at_call_of 80 ow; refine (HO.out _).mono ?_; rintro e w1 ⟨rfl, rfl⟩))
  all_goals
   go_ret
   refine ⟨ret_bool ?_, ?_⟩
   ·rw [← HM.out]; unfold may; obtain ⟨g0, g1, g2, g3, g4, g5⟩ := HQ.out; clear HV HO HM HR HFI HBX HF1 HB1 HB2 HS2 HF2; by_cases hd : d = [] <;> by_cases hv0 : v = 0 <;> by_cases ho0 : ow = 0 <;> cases t <;> simp_all <;> omega
   first | exact HF2.out | (repeat (first | exact HF2.out | refine Fp.setCell ?_ (.inr (Nat.le_refl _)) _))
set_option maxHeartbeats 8000000 in
theorem May_3 (o : Opn) (w : World) (hp : (split o.path).isSome = true) (hl : o.path.length ≤ 1000000) (hk : o.kind = 3) :
  Calls Tryz.prog 37 #[opV o] w fun e w' => e = .returned (.bool (may o)) ∧ Fp Non w w' := by
 obtain ⟨k, p, d, v, ow, t⟩ := o
 obtain rfl : k = 3 := hk
 unfold opV strV
 have hr := fun w => Right_g p w (sz_of hl (by omega))
 obtain ⟨m, hm⟩ : ∃ m, may ⟨3, p, d, v, ow, t⟩ = m := ⟨_, rfl⟩
 rw [hm]
 rw [show (split p).isSome = true from hp] at hr
 obtain ⟨bv, h1⟩ : ∃ r, decide ((-1 : Int) ≤ v ∧ v ≤ 281474976710656) = r := ⟨_, rfl⟩
 obtain ⟨bo, h2⟩ : ∃ r, decide ((0 : Int) ≤ ow ∧ ow ≤ 1099511627776) = r := ⟨_, rfl⟩
 obtain ⟨br, h3⟩ : ∃ r, (p == [47]) = r := ⟨_, rfl⟩
 obtain ⟨bl, h4⟩ : ∃ r, decide (d.length ≤ 256) = r := ⟨_, rfl⟩
 obtain ⟨bz, h5⟩ : ∃ r, (ow == 0) = r := ⟨_, rfl⟩
 have HV := zI (fun w => within_d v (-1) 281474976710656 w bv h1)
 have HO := zI (fun w => within_d ow 0 1099511627776 w bo h2)
 have HM := zI hm
 have HR := zI hr
 have HFI := zI fields_c
 have HBX := zI (fun w => heap_alloc_new w (.cells #[.int .i64 3, .string (B p), .string (B d), .int .i64 v, .int .i64 ow, .bool t] TO_))
 have HQ := zI (yI hp (yI h1 (yI h2 (yI h3 (yI h4 h5)))))
 have q4 : (((d.length : Int) ≤ 256) = (bl = true)) := by rw [← h4]; simp; omega
 have q5 : ((d.length ≤ 256) = (bl = true)) := by rw [← h4]; simp
 clear hm hr h1 h2 hp hl h3 h5 h4
 have hix := fields_at3
 go_enter Tryz.func37, Tryz.ntmps37
 go_wp2_with fail
 refine (HR.out _).mono ?_
 rintro e w1 ⟨rfl, g1⟩
 have hb1 := (Fp.of_below g1).heap (HBX.out w) id
 have HF1 := zI (((Fp.refl Non w).alloc _).then g1.fp)
 have HB1 := zI hb1
 clear g1 hb1
 go_wp2_with fail
 refine wp_region_held_drew (S := (fun w' => w'.cell? ⟨w.heap.size, 0, none⟩ = some ((.int .i64 3)) ∧ w'.cell? ⟨w.heap.size, 1, none⟩ = some (.string (B p)) ∧ w'.cell? ⟨w.heap.size, 2, none⟩ = some (.string (B d)) ∧ w'.cell? ⟨w.heap.size, 3, none⟩ = some (.int .i64 v) ∧ w'.cell? ⟨w.heap.size, 4, none⟩ = some (.int .i64 ow) ∧ w'.cell? ⟨w.heap.size, 5, none⟩ = some (.bool t))) (by kernel_rfl) ?_ (fun hH => ?_)
 ·exact box6 ((Fp.refl Non w1).drew.heap HB1.out id)
 refine tk 1 hH ?_
 refine tk 2 hH ?_
 refine rY 0 fun K hK => ?_
 go_simp
 go_at_call 79
 refine (HFI.out _).mono ?_
 rintro e w2 ⟨rfl, f2⟩
 have hb2 := f2.heap (k := w.heap.size) ((Fp.refl Non w1).drew.heap HB1.out id) id
 have HB2 := zI hb2
 have HS2 := zI (box6 hb2)
 have HF2 := zI (HF1.out.then (((Fp.refl Non w1).drew).then f2))
 clear f2 hb2
 go_wp2_with fail
 refine hK.out _ _ HS2.out (fun hH => ?_)
 clear hK K
 try simp only [zz]
 refine tk 3 hH ?_
 refine tk 4 hH ?_
 refine dn ?_
 have s0 := HS2.out.1; have s1 := HS2.out.2.1; have s2 := HS2.out.2.2.1; have s3 := HS2.out.2.2.2.1; have s4 := HS2.out.2.2.2.2.1; have s5 := HS2.out.2.2.2.2.2
 have fz : ∀ j, w2.frozen? ⟨w.heap.size, j, none⟩ = false := fun j => by have := HB2.out; simp [World.frozen?, this]
 have z0 := fz 0; have z1 := fz 1; have z2 := fz 2; have z3 := fz 3; have z4 := fz 4; have z5 := fz 5
 clear fz
 have heq := eq_op
 clear hix
 cases bl <;> cases bv
 all_goals simp only [Bool.false_eq_true, eq_self] at q4 q5
 all_goals
  go_wp2_with (first
   | (go_at_call_of 80 v; refine (HV.out _).mono ?_; rintro e w1 ⟨rfl, rfl⟩)
   | (go_at_call_of 80 ow; refine (HO.out _).mono ?_; rintro e w1 ⟨rfl, rfl⟩))
  all_goals
   go_ret
   refine ⟨ret_bool ?_, ?_⟩
   ·rw [← HM.out]; unfold may; obtain ⟨g0, g1, g2, g3, g4, g5⟩ := HQ.out; clear HV HO HM HR HFI HBX HF1 HB1 HB2 HS2 HF2; by_cases hd : d = [] <;> by_cases hv0 : v = 0 <;> by_cases ho0 : ow = 0 <;> cases t <;> simp_all <;> omega
   first | exact HF2.out | (repeat (first | exact HF2.out | refine Fp.setCell ?_ (.inr (Nat.le_refl _)) _))
set_option maxHeartbeats 8000000 in
theorem May_4 (o : Opn) (w : World) (hp : (split o.path).isSome = true) (hl : o.path.length ≤ 1000000) (hk : o.kind = 4) :
  Calls Tryz.prog 37 #[opV o] w fun e w' => e = .returned (.bool (may o)) ∧ Fp Non w w' := by
 obtain ⟨k, p, d, v, ow, t⟩ := o
 obtain rfl : k = 4 := hk
 unfold opV strV
 have hr := fun w => Right_g p w (sz_of hl (by omega))
 obtain ⟨m, hm⟩ : ∃ m, may ⟨4, p, d, v, ow, t⟩ = m := ⟨_, rfl⟩
 rw [hm]
 rw [show (split p).isSome = true from hp] at hr
 obtain ⟨bv, h1⟩ : ∃ r, decide ((-1 : Int) ≤ v ∧ v ≤ 281474976710656) = r := ⟨_, rfl⟩
 obtain ⟨bo, h2⟩ : ∃ r, decide ((0 : Int) ≤ ow ∧ ow ≤ 1099511627776) = r := ⟨_, rfl⟩
 obtain ⟨br, h3⟩ : ∃ r, (p == [47]) = r := ⟨_, rfl⟩
 obtain ⟨bl, h4⟩ : ∃ r, decide (d.length ≤ 256) = r := ⟨_, rfl⟩
 obtain ⟨bz, h5⟩ : ∃ r, (ow == 0) = r := ⟨_, rfl⟩
 have HV := zI (fun w => within_d v (-1) 281474976710656 w bv h1)
 have HO := zI (fun w => within_d ow 0 1099511627776 w bo h2)
 have HM := zI hm
 have HR := zI hr
 have HFI := zI fields_c
 have HBX := zI (fun w => heap_alloc_new w (.cells #[.int .i64 4, .string (B p), .string (B d), .int .i64 v, .int .i64 ow, .bool t] TO_))
 have HQ := zI (yI hp (yI h1 (yI h2 (yI h3 (yI h4 h5)))))
 clear hm hr h1 h2 hp hl h3 h5 h4
 have hix := fields_at4
 go_enter Tryz.func37, Tryz.ntmps37
 go_wp2_with fail
 refine (HR.out _).mono ?_
 rintro e w1 ⟨rfl, g1⟩
 have hb1 := (Fp.of_below g1).heap (HBX.out w) id
 have HF1 := zI (((Fp.refl Non w).alloc _).then g1.fp)
 have HB1 := zI hb1
 clear g1 hb1
 go_wp2_with fail
 refine wp_region_held_drew (S := (fun w' => w'.cell? ⟨w.heap.size, 0, none⟩ = some ((.int .i64 4)) ∧ w'.cell? ⟨w.heap.size, 1, none⟩ = some (.string (B p)) ∧ w'.cell? ⟨w.heap.size, 2, none⟩ = some (.string (B d)) ∧ w'.cell? ⟨w.heap.size, 3, none⟩ = some (.int .i64 v) ∧ w'.cell? ⟨w.heap.size, 4, none⟩ = some (.int .i64 ow) ∧ w'.cell? ⟨w.heap.size, 5, none⟩ = some (.bool t))) (by kernel_rfl) ?_ (fun hH => ?_)
 ·exact box6 ((Fp.refl Non w1).drew.heap HB1.out id)
 refine tk 1 hH ?_
 refine tk 2 hH ?_
 refine rY 0 fun K hK => ?_
 go_simp
 go_at_call 79
 refine (HFI.out _).mono ?_
 rintro e w2 ⟨rfl, f2⟩
 have hb2 := f2.heap (k := w.heap.size) ((Fp.refl Non w1).drew.heap HB1.out id) id
 have HB2 := zI hb2
 have HS2 := zI (box6 hb2)
 have HF2 := zI (HF1.out.then (((Fp.refl Non w1).drew).then f2))
 clear f2 hb2
 go_wp2_with fail
 refine hK.out _ _ HS2.out (fun hH => ?_)
 clear hK K
 try simp only [zz]
 refine tk 3 hH ?_
 refine tk 4 hH ?_
 refine dn ?_
 have s0 := HS2.out.1; have s1 := HS2.out.2.1; have s2 := HS2.out.2.2.1; have s3 := HS2.out.2.2.2.1; have s4 := HS2.out.2.2.2.2.1; have s5 := HS2.out.2.2.2.2.2
 have fz : ∀ j, w2.frozen? ⟨w.heap.size, j, none⟩ = false := fun j => by have := HB2.out; simp [World.frozen?, this]
 have z0 := fz 0; have z1 := fz 1; have z2 := fz 2; have z3 := fz 3; have z4 := fz 4; have z5 := fz 5
 clear fz
 have heq := eq_op
 clear hix
 cases bv
 all_goals
  go_wp2_with (first
   | (go_at_call_of 80 v; refine (HV.out _).mono ?_; rintro e w1 ⟨rfl, rfl⟩)
   | (go_at_call_of 80 ow; refine (HO.out _).mono ?_; rintro e w1 ⟨rfl, rfl⟩))
  all_goals
   go_ret
   refine ⟨ret_bool ?_, ?_⟩
   ·rw [← HM.out]; unfold may; obtain ⟨g0, g1, g2, g3, g4, g5⟩ := HQ.out; clear HV HO HM HR HFI HBX HF1 HB1 HB2 HS2 HF2; by_cases hd : d = [] <;> by_cases hv0 : v = 0 <;> by_cases ho0 : ow = 0 <;> cases t <;> simp_all <;> omega
   first | exact HF2.out | (repeat (first | exact HF2.out | refine Fp.setCell ?_ (.inr (Nat.le_refl _)) _))
set_option maxHeartbeats 8000000 in
theorem May_5 (o : Opn) (w : World) (hp : (split o.path).isSome = true) (hl : o.path.length ≤ 1000000) (hk : o.kind = 5) :
  Calls Tryz.prog 37 #[opV o] w fun e w' => e = .returned (.bool (may o)) ∧ Fp Non w w' := by
 obtain ⟨k, p, d, v, ow, t⟩ := o
 obtain rfl : k = 5 := hk
 unfold opV strV
 have hr := fun w => Right_g p w (sz_of hl (by omega))
 obtain ⟨m, hm⟩ : ∃ m, may ⟨5, p, d, v, ow, t⟩ = m := ⟨_, rfl⟩
 rw [hm]
 rw [show (split p).isSome = true from hp] at hr
 obtain ⟨bv, h1⟩ : ∃ r, decide ((-1 : Int) ≤ v ∧ v ≤ 281474976710656) = r := ⟨_, rfl⟩
 obtain ⟨bo, h2⟩ : ∃ r, decide ((0 : Int) ≤ ow ∧ ow ≤ 1099511627776) = r := ⟨_, rfl⟩
 obtain ⟨br, h3⟩ : ∃ r, (p == [47]) = r := ⟨_, rfl⟩
 obtain ⟨bl, h4⟩ : ∃ r, decide (d.length ≤ 256) = r := ⟨_, rfl⟩
 obtain ⟨bz, h5⟩ : ∃ r, (ow == 0) = r := ⟨_, rfl⟩
 have HV := zI (fun w => within_d v (-1) 281474976710656 w bv h1)
 have HO := zI (fun w => within_d ow 0 1099511627776 w bo h2)
 have HM := zI hm
 have HR := zI hr
 have HFI := zI fields_c
 have HBX := zI (fun w => heap_alloc_new w (.cells #[.int .i64 5, .string (B p), .string (B d), .int .i64 v, .int .i64 ow, .bool t] TO_))
 have HQ := zI (yI hp (yI h1 (yI h2 (yI h3 (yI h4 h5)))))
 clear hm hr h1 h2 hp hl h3 h5 h4
 have hix := fields_at5
 go_enter Tryz.func37, Tryz.ntmps37
 go_wp2_with fail
 refine (HR.out _).mono ?_
 rintro e w1 ⟨rfl, g1⟩
 have hb1 := (Fp.of_below g1).heap (HBX.out w) id
 have HF1 := zI (((Fp.refl Non w).alloc _).then g1.fp)
 have HB1 := zI hb1
 clear g1 hb1
 go_wp2_with fail
 refine wp_region_held_drew (S := (fun w' => w'.cell? ⟨w.heap.size, 0, none⟩ = some ((.int .i64 5)) ∧ w'.cell? ⟨w.heap.size, 1, none⟩ = some (.string (B p)) ∧ w'.cell? ⟨w.heap.size, 2, none⟩ = some (.string (B d)) ∧ w'.cell? ⟨w.heap.size, 3, none⟩ = some (.int .i64 v) ∧ w'.cell? ⟨w.heap.size, 4, none⟩ = some (.int .i64 ow) ∧ w'.cell? ⟨w.heap.size, 5, none⟩ = some (.bool t))) (by kernel_rfl) ?_ (fun hH => ?_)
 ·exact box6 ((Fp.refl Non w1).drew.heap HB1.out id)
 refine tk 1 hH ?_
 refine tk 2 hH ?_
 refine rY 0 fun K hK => ?_
 go_simp
 go_at_call 79
 refine (HFI.out _).mono ?_
 rintro e w2 ⟨rfl, f2⟩
 have hb2 := f2.heap (k := w.heap.size) ((Fp.refl Non w1).drew.heap HB1.out id) id
 have HB2 := zI hb2
 have HS2 := zI (box6 hb2)
 have HF2 := zI (HF1.out.then (((Fp.refl Non w1).drew).then f2))
 clear f2 hb2
 go_wp2_with fail
 refine hK.out _ _ HS2.out (fun hH => ?_)
 clear hK K
 try simp only [zz]
 refine tk 3 hH ?_
 refine tk 4 hH ?_
 refine dn ?_
 have s0 := HS2.out.1; have s1 := HS2.out.2.1; have s2 := HS2.out.2.2.1; have s3 := HS2.out.2.2.2.1; have s4 := HS2.out.2.2.2.2.1; have s5 := HS2.out.2.2.2.2.2
 have fz : ∀ j, w2.frozen? ⟨w.heap.size, j, none⟩ = false := fun j => by have := HB2.out; simp [World.frozen?, this]
 have z0 := fz 0; have z1 := fz 1; have z2 := fz 2; have z3 := fz 3; have z4 := fz 4; have z5 := fz 5
 clear fz
 have heq := eq_op
 clear hix
 go_wp2_with (first
  | (go_at_call_of 80 v; refine (HV.out _).mono ?_; rintro e w1 ⟨rfl, rfl⟩)
  | (go_at_call_of 80 ow; refine (HO.out _).mono ?_; rintro e w1 ⟨rfl, rfl⟩))
 all_goals
  go_ret
  refine ⟨ret_bool ?_, ?_⟩
  ·rw [← HM.out]; unfold may; obtain ⟨g0, g1, g2, g3, g4, g5⟩ := HQ.out; clear HV HO HM HR HFI HBX HF1 HB1 HB2 HS2 HF2; by_cases hd : d = [] <;> by_cases hv0 : v = 0 <;> by_cases ho0 : ow = 0 <;> cases t <;> simp_all <;> omega
  first | exact HF2.out | (repeat (first | exact HF2.out | refine Fp.setCell ?_ (.inr (Nat.le_refl _)) _))
set_option maxHeartbeats 8000000 in
theorem May_6 (o : Opn) (w : World) (hp : (split o.path).isSome = true) (hl : o.path.length ≤ 1000000) (hk : o.kind = 6) :
  Calls Tryz.prog 37 #[opV o] w fun e w' => e = .returned (.bool (may o)) ∧ Fp Non w w' := by
 obtain ⟨k, p, d, v, ow, t⟩ := o
 obtain rfl : k = 6 := hk
 unfold opV strV
 have hr := fun w => Right_g p w (sz_of hl (by omega))
 obtain ⟨m, hm⟩ : ∃ m, may ⟨6, p, d, v, ow, t⟩ = m := ⟨_, rfl⟩
 rw [hm]
 rw [show (split p).isSome = true from hp] at hr
 obtain ⟨bv, h1⟩ : ∃ r, decide ((-1 : Int) ≤ v ∧ v ≤ 281474976710656) = r := ⟨_, rfl⟩
 obtain ⟨bo, h2⟩ : ∃ r, decide ((0 : Int) ≤ ow ∧ ow ≤ 1099511627776) = r := ⟨_, rfl⟩
 obtain ⟨br, h3⟩ : ∃ r, (p == [47]) = r := ⟨_, rfl⟩
 obtain ⟨bl, h4⟩ : ∃ r, decide (d.length ≤ 256) = r := ⟨_, rfl⟩
 obtain ⟨bz, h5⟩ : ∃ r, (ow == 0) = r := ⟨_, rfl⟩
 have HV := zI (fun w => within_d v (-1) 281474976710656 w bv h1)
 have HO := zI (fun w => within_d ow 0 1099511627776 w bo h2)
 have HM := zI hm
 have HR := zI hr
 have HFI := zI fields_c
 have HBX := zI (fun w => heap_alloc_new w (.cells #[.int .i64 6, .string (B p), .string (B d), .int .i64 v, .int .i64 ow, .bool t] TO_))
 have HQ := zI (yI hp (yI h1 (yI h2 (yI h3 (yI h4 h5)))))
 clear hm hr h1 h2 hp hl h3 h5 h4
 have hix := fields_at6
 go_enter Tryz.func37, Tryz.ntmps37
 go_wp2_with fail
 refine (HR.out _).mono ?_
 rintro e w1 ⟨rfl, g1⟩
 have hb1 := (Fp.of_below g1).heap (HBX.out w) id
 have HF1 := zI (((Fp.refl Non w).alloc _).then g1.fp)
 have HB1 := zI hb1
 clear g1 hb1
 go_wp2_with fail
 refine wp_region_held_drew (S := (fun w' => w'.cell? ⟨w.heap.size, 0, none⟩ = some ((.int .i64 6)) ∧ w'.cell? ⟨w.heap.size, 1, none⟩ = some (.string (B p)) ∧ w'.cell? ⟨w.heap.size, 2, none⟩ = some (.string (B d)) ∧ w'.cell? ⟨w.heap.size, 3, none⟩ = some (.int .i64 v) ∧ w'.cell? ⟨w.heap.size, 4, none⟩ = some (.int .i64 ow) ∧ w'.cell? ⟨w.heap.size, 5, none⟩ = some (.bool t))) (by kernel_rfl) ?_ (fun hH => ?_)
 ·exact box6 ((Fp.refl Non w1).drew.heap HB1.out id)
 refine tk 1 hH ?_
 refine tk 2 hH ?_
 refine rY 0 fun K hK => ?_
 go_simp
 go_at_call 79
 refine (HFI.out _).mono ?_
 rintro e w2 ⟨rfl, f2⟩
 have hb2 := f2.heap (k := w.heap.size) ((Fp.refl Non w1).drew.heap HB1.out id) id
 have HB2 := zI hb2
 have HS2 := zI (box6 hb2)
 have HF2 := zI (HF1.out.then (((Fp.refl Non w1).drew).then f2))
 clear f2 hb2
 go_wp2_with fail
 refine hK.out _ _ HS2.out (fun hH => ?_)
 clear hK K
 try simp only [zz]
 refine tk 3 hH ?_
 refine tk 4 hH ?_
 refine dn ?_
 have s0 := HS2.out.1; have s1 := HS2.out.2.1; have s2 := HS2.out.2.2.1; have s3 := HS2.out.2.2.2.1; have s4 := HS2.out.2.2.2.2.1; have s5 := HS2.out.2.2.2.2.2
 have fz : ∀ j, w2.frozen? ⟨w.heap.size, j, none⟩ = false := fun j => by have := HB2.out; simp [World.frozen?, this]
 have z0 := fz 0; have z1 := fz 1; have z2 := fz 2; have z3 := fz 3; have z4 := fz 4; have z5 := fz 5
 clear fz
 have heq := eq_op
 clear hix
 go_wp2_with (first
  | (go_at_call_of 80 v; refine (HV.out _).mono ?_; rintro e w1 ⟨rfl, rfl⟩)
  | (go_at_call_of 80 ow; refine (HO.out _).mono ?_; rintro e w1 ⟨rfl, rfl⟩))
 all_goals
  go_ret
  refine ⟨ret_bool ?_, ?_⟩
  ·rw [← HM.out]; unfold may; obtain ⟨g0, g1, g2, g3, g4, g5⟩ := HQ.out; clear HV HO HM HR HFI HBX HF1 HB1 HB2 HS2 HF2; by_cases hd : d = [] <;> by_cases hv0 : v = 0 <;> by_cases ho0 : ow = 0 <;> cases t <;> simp_all <;> omega
  first | exact HF2.out | (repeat (first | exact HF2.out | refine Fp.setCell ?_ (.inr (Nat.le_refl _)) _))
set_option maxHeartbeats 8000000 in
theorem May_7 (o : Opn) (w : World) (hp : (split o.path).isSome = true) (hl : o.path.length ≤ 1000000) (hk : o.kind = 7) :
  Calls Tryz.prog 37 #[opV o] w fun e w' => e = .returned (.bool (may o)) ∧ Fp Non w w' := by
 obtain ⟨k, p, d, v, ow, t⟩ := o
 obtain rfl : k = 7 := hk
 unfold opV strV
 have hr := fun w => Right_g p w (sz_of hl (by omega))
 obtain ⟨m, hm⟩ : ∃ m, may ⟨7, p, d, v, ow, t⟩ = m := ⟨_, rfl⟩
 rw [hm]
 rw [show (split p).isSome = true from hp] at hr
 obtain ⟨bv, h1⟩ : ∃ r, decide ((-1 : Int) ≤ v ∧ v ≤ 281474976710656) = r := ⟨_, rfl⟩
 obtain ⟨bo, h2⟩ : ∃ r, decide ((0 : Int) ≤ ow ∧ ow ≤ 1099511627776) = r := ⟨_, rfl⟩
 obtain ⟨br, h3⟩ : ∃ r, (p == [47]) = r := ⟨_, rfl⟩
 obtain ⟨bl, h4⟩ : ∃ r, decide (d.length ≤ 256) = r := ⟨_, rfl⟩
 obtain ⟨bz, h5⟩ : ∃ r, (ow == 0) = r := ⟨_, rfl⟩
 have HV := zI (fun w => within_d v (-1) 281474976710656 w bv h1)
 have HO := zI (fun w => within_d ow 0 1099511627776 w bo h2)
 have HM := zI hm
 have HR := zI hr
 have HFI := zI fields_c
 have HBX := zI (fun w => heap_alloc_new w (.cells #[.int .i64 7, .string (B p), .string (B d), .int .i64 v, .int .i64 ow, .bool t] TO_))
 have HQ := zI (yI hp (yI h1 (yI h2 (yI h3 (yI h4 h5)))))
 clear hm hr h1 h2 hp hl h3 h4
 have hix := fields_at7
 go_enter Tryz.func37, Tryz.ntmps37
 go_wp2_with fail
 refine (HR.out _).mono ?_
 rintro e w1 ⟨rfl, g1⟩
 have hb1 := (Fp.of_below g1).heap (HBX.out w) id
 have HF1 := zI (((Fp.refl Non w).alloc _).then g1.fp)
 have HB1 := zI hb1
 clear g1 hb1
 go_wp2_with fail
 refine wp_region_held_drew (S := (fun w' => w'.cell? ⟨w.heap.size, 0, none⟩ = some ((.int .i64 7)) ∧ w'.cell? ⟨w.heap.size, 1, none⟩ = some (.string (B p)) ∧ w'.cell? ⟨w.heap.size, 2, none⟩ = some (.string (B d)) ∧ w'.cell? ⟨w.heap.size, 3, none⟩ = some (.int .i64 v) ∧ w'.cell? ⟨w.heap.size, 4, none⟩ = some (.int .i64 ow) ∧ w'.cell? ⟨w.heap.size, 5, none⟩ = some (.bool t))) (by kernel_rfl) ?_ (fun hH => ?_)
 ·exact box6 ((Fp.refl Non w1).drew.heap HB1.out id)
 refine tk 1 hH ?_
 refine tk 2 hH ?_
 refine rY 0 fun K hK => ?_
 go_simp
 go_at_call 79
 refine (HFI.out _).mono ?_
 rintro e w2 ⟨rfl, f2⟩
 have hb2 := f2.heap (k := w.heap.size) ((Fp.refl Non w1).drew.heap HB1.out id) id
 have HB2 := zI hb2
 have HS2 := zI (box6 hb2)
 have HF2 := zI (HF1.out.then (((Fp.refl Non w1).drew).then f2))
 clear f2 hb2
 go_wp2_with fail
 refine hK.out _ _ HS2.out (fun hH => ?_)
 clear hK K
 try simp only [zz]
 refine tk 3 hH ?_
 refine tk 4 hH ?_
 refine dn ?_
 have s0 := HS2.out.1; have s1 := HS2.out.2.1; have s2 := HS2.out.2.2.1; have s3 := HS2.out.2.2.2.1; have s4 := HS2.out.2.2.2.2.1; have s5 := HS2.out.2.2.2.2.2
 have fz : ∀ j, w2.frozen? ⟨w.heap.size, j, none⟩ = false := fun j => by have := HB2.out; simp [World.frozen?, this]
 have z0 := fz 0; have z1 := fz 1; have z2 := fz 2; have z3 := fz 3; have z4 := fz 4; have z5 := fz 5
 clear fz
 have heq := eq_op
 clear hix
 cases bo <;> cases bz
 all_goals
  go_wp2_with (first
   | (go_at_call_of 80 v; refine (HV.out _).mono ?_; rintro e w1 ⟨rfl, rfl⟩)
   | (go_at_call_of 80 ow; refine (HO.out _).mono ?_; rintro e w1 ⟨rfl, rfl⟩))
  all_goals
   go_ret
   refine ⟨ret_bool ?_, ?_⟩
   ·rw [← HM.out]; unfold may; obtain ⟨g0, g1, g2, g3, g4, g5⟩ := HQ.out; clear HV HO HM HR HFI HBX HF1 HB1 HB2 HS2 HF2; by_cases hd : d = [] <;> by_cases hv0 : v = 0 <;> by_cases ho0 : ow = 0 <;> cases t <;> simp_all <;> omega
   first | exact HF2.out | (repeat (first | exact HF2.out | refine Fp.setCell ?_ (.inr (Nat.le_refl _)) _))
theorem may_kind_false {o : Opn} (h : ¬ (1 ≤ o.kind ∧ o.kind ≤ 7)) : may o = false := by
 cases hm : may o with
 | false => rfl
 | true => have := may_kind hm; omega
theorem may_split_false {o : Opn} (h : (split o.path).isSome = false) : may o = false := by
 cases hm : may o with
 | false => rfl
 | true => rw [may_split hm] at h; cases h
set_option maxHeartbeats 2000000 in
theorem May_c (o : Opn) (w : World) (hl : o.path.length ≤ 1000000) :
  Calls Tryz.prog 37 #[opV o] w fun e w' => e = .returned (.bool (may o)) ∧ Fp Non w w' := by
 by_cases hk : 1 ≤ o.kind ∧ o.kind ≤ 7
 ·cases hs : (split o.path).isSome with
  | true =>
   rcases (show o.kind = 1 ∨ o.kind = 2 ∨ o.kind = 3 ∨ o.kind = 4 ∨ o.kind = 5 ∨ o.kind = 6 ∨ o.kind = 7 by omega) with k | k | k | k | k | k | k
   ·exact May_1 o w hs hl k
   ·exact May_2 o w hs hl k
   ·exact May_3 o w hs hl k
   ·exact May_4 o w hs hl k
   ·exact May_5 o w hs hl k
   ·exact May_6 o w hs hl k
   exact May_7 o w hs hl k
  | false =>
   rw [may_split_false hs]
   obtain ⟨k, p, d, v, ow, t⟩ := o
   unfold opV strV
   have hr := fun w => Right_g p w (sz_of hl (by omega))
   rw [show (split p).isSome = false from hs] at hr
   have HR := zI hr
   have q1 : (k < 1) = False := eq_false (by have := hk.1; simp at this; omega)
   have q2 : ((8 : Int) ≤ k) = False := eq_false (by have := hk.2; simp at this; omega)
   clear hr hs hl hk
   go_enter Tryz.func37, Tryz.ntmps37
   go_wp2_with fail
   refine (HR.out _).mono ?_
   rintro e w1 ⟨rfl, g1⟩
   have HF := zI (((Fp.refl Non w).alloc (.cells #[.int .i64 k, .string (B p), .string (B d), .int .i64 v, .int .i64 ow, .bool t] TO_)).then g1.fp)
   clear g1
   go_wp2
   go_ret
   exact ⟨rfl, HF.out⟩
 rw [may_kind_false hk]
 obtain ⟨k, p, d, v, ow, t⟩ := o
 unfold opV strV
 by_cases h1 : k < 1
 ·have q1 : (k < 1) = True := eq_true h1
  clear hk hl h1
  go_enter Tryz.func37, Tryz.ntmps37
  go_wp2
  go_ret
  exact ⟨rfl, (Fp.refl Non w).alloc _⟩
 have q1 : (k < 1) = False := eq_false h1
 have q2 : ((8 : Int) ≤ k) = True := eq_true (by have : ¬ (1 ≤ k ∧ k ≤ 7) := hk; omega)
 clear hk hl h1
 go_enter Tryz.func37, Tryz.ntmps37
 go_wp2
 go_ret
 exact ⟨rfl, (Fp.refl Non w).alloc _⟩
end Go.Proofs.YtphoglepiegeiaaGreatDoor
namespace Go.Proofs.YtphoglepiegeiaaGreatDoor
set_option maxRecDepth 20000
namespace Pm
structure Tu where
 dir : Bs
 next : Int
deriving DecidableEq
structure St where
 nodes : List Nd
 turns : List Tu
deriving DecidableEq
structure Pt where
 kind : Int
 dir : Bs
 path : Bs
 data : Bs
 ver : Int
 own : Int
 turns : Bool
deriving DecidableEq
def upB (p : Bs) : Bs := (parent p).getD [47]
def keptAt (k : Int) (p : Bs) : Bs := if k = 4 ∨ k = 9 ∨ k = 10 then p else upB p
def mayP (x : Pt) : Bool :=
 decide (1 ≤ x.kind ∧ x.kind ≤ 10) && (split x.path).isSome && decide (x.dir = keptAt x.kind x.path) && decide (¬ (x.kind = 2 ∧ x.path = [47])) &&
 decide (x.data.length ≤ 256 ∧ -1 ≤ x.ver ∧ x.ver ≤ 281474976710656 ∧ 0 ≤ x.own ∧ x.own ≤ 1099511627776)
def sfit (n : Nd) : Bool :=
 (split n.path).isSome && decide (n.data.length ≤ 256 ∧ n.turn = 0 ∧ ¬ (n.path = [47] ∧ n.own ≠ 0) ∧ 0 ≤ n.ver ∧ n.ver ≤ 281474976710656 ∧ 0 ≤ n.own ∧ n.own ≤ 1099511627776)
def tfit (t : Tu) : Bool := (split t.dir).isSome && decide (1 ≤ t.next ∧ t.next ≤ 10000)
def AscT (l : List Tu) : Prop := ∀ i j (hi : i < l.length) (hj : j < l.length), i < j → lt l[i].dir l[j].dir = true
structure StR (s : St) : Prop where
 fit : ∀ n ∈ s.nodes, sfit n = true
 asc : Asc s.nodes
 tfit : ∀ t ∈ s.turns, tfit t = true
 tasc : AscT s.turns
open Classical in
noncomputable def rightS (s : St) : Bool := decide (StR s)
theorem rightS_iff (s : St) : rightS s = true ↔ StR s := by unfold rightS; simp
theorem rightS_true {s : St} (h : StR s) : rightS s = true := by unfold rightS; simp [h]
theorem rightS_false {s : St} (h : ¬ StR s) : rightS s = false := by unfold rightS; simp [h]
def findT (l : List Tu) (p : Bs) : Option Tu := l.find? (fun t => t.dir == p)
def turnOf (l : List Tu) (p : Bs) : Int := ((findT l p).map Tu.next).getD 0
def placeT (l : List Tu) (p : Bs) : Nat := l.countP (fun t => lt t.dir p)
def insT (l : List Tu) (k : Nat) (x : Tu) : List Tu := l.take k ++ x :: l.drop k
def setT (l : List Tu) (p : Bs) (n : Int) : List Tu :=
 let l1 := if (findT l p).isSome = true then l.eraseIdx (placeT l p) else l
 if n ≠ 0 then insT l1 (placeT l p) ⟨p, n⟩ else l1
def okR : Res := ⟨0, [], [], 0, []⟩
def versionedP (k : Int) : Bool := k == 3 || k == 5 || k == 6
def newPath (s : St) (x : Pt) : Option Bs := if x.turns = true then (numbered (last x.path) (turnOf s.turns x.dir)).bind (join x.dir) else some x.path
def putS (s : St) (x : Pt) : St × Res :=
 match newPath s x with
 | none => (s, .bad 66)
 | some q => if (find s.nodes q).isSome = true then (s, .bad 61) else
   (⟨ins s.nodes (place s.nodes q) ⟨q, x.data, 0, 0, x.own⟩, if x.turns = true then setT s.turns x.dir (turnOf s.turns x.dir + 1) else s.turns⟩, ⟨0, q, [], 0, []⟩)
def cleared (x : Pt) (n : Nd) : Bool := n.own == x.own && parent n.path == some x.path
def doP (s : St) (x : Pt) : St × Res :=
 if x.kind = 2 then putS s x
 else if x.kind = 4 then (if kids s.nodes x.path = [] then (⟨s.nodes, setT s.turns x.path 0⟩, okR) else (s, .bad 64))
 else if x.kind = 9 then (s, ⟨0, [], [], 0, (kids s.nodes x.path).map (fun n => last n.path)⟩)
 else if x.kind = 10 then (⟨s.nodes.filter (fun n => !cleared x n), s.turns⟩, ⟨0, [], [], 0, (s.nodes.filter (cleared x)).map (fun n => last n.path)⟩)
 else match find s.nodes x.path with
  | none => (s, .bad 62)
  | some n => if versionedP x.kind = true ∧ 0 ≤ x.ver ∧ x.ver ≠ n.ver then (s, .bad 63)
   else if x.kind = 1 then (if n.own ≠ 0 then (s, .bad 65) else (s, okR))
   else if x.kind = 3 then (⟨s.nodes.eraseIdx (place s.nodes x.path), s.turns⟩, okR)
   else if x.kind = 5 then (if n.ver = 281474976710656 then (s, .bad 2) else (⟨s.nodes.set (place s.nodes x.path) { n with data := x.data, ver := n.ver + 1 }, s.turns⟩, ⟨0, [], [], n.ver + 1, []⟩))
   else if x.kind = 6 then (s, ⟨0, [], [], n.ver, []⟩)
   else if x.kind = 7 then (s, ⟨0, [], n.data, n.ver, []⟩)
   else (s, okR)
noncomputable def applyP (s : St) (x : Pt) : St × Res := if rightS s && mayP x then doP s x else (⟨[], []⟩, .bad 1)
theorem applyP_no {s : St} {x : Pt} (h : ¬ (rightS s = true ∧ mayP x = true)) : applyP s x = (⟨[], []⟩, .bad 1) := by
 unfold applyP; rw [if_neg]; simpa [Bool.and_eq_true] using h
theorem applyP_yes {s : St} {x : Pt} (h : StR s) (k : mayP x = true) : applyP s x = doP s x := by
 unfold applyP; rw [if_pos]; rw [rightS_true h, k]; rfl
theorem doP_err (s : St) (x : Pt) : (doP s x).2.err ≠ 1 ∧ ((doP s x).2.err ≠ 0 → (doP s x).1 = s ∧ (doP s x).2 = .bad (doP s x).2.err) := by
 have bad : ∀ e : Int, e ≠ 1 → ((s, Res.bad e).2.err ≠ 1 ∧ ((s, Res.bad e).2.err ≠ 0 → (s, Res.bad e).1 = s ∧ (s, Res.bad e).2 = .bad (s, Res.bad e).2.err)) := fun e h => ⟨h, fun _ => ⟨rfl, rfl⟩⟩
 have good : ∀ (t : St) (r : Res), r.err = 0 → ((t, r).2.err ≠ 1 ∧ ((t, r).2.err ≠ 0 → (t, r).1 = s ∧ (t, r).2 = .bad (t, r).2.err)) := fun t r h => ⟨by rw [show (t, r).2 = r from rfl, h]; decide, fun k => absurd h k⟩
 unfold doP
 split
 ·unfold putS
  split
  ·exact bad _ (by decide)
  split
  ·exact bad _ (by decide)
  exact good _ _ rfl
 split
 ·split
  ·exact good _ _ rfl
  exact bad _ (by decide)
 split
 ·exact good _ _ rfl
 split
 ·exact good _ _ rfl
 split
 ·exact bad _ (by decide)
 split
 ·exact bad _ (by decide)
 split
 ·split
  ·exact bad _ (by decide)
  exact good _ _ rfl
 split
 ·exact good _ _ rfl
 split
 ·split
  ·exact bad _ (by decide)
  exact good _ _ rfl
 split
 ·exact good _ _ rfl
 split
 ·exact good _ _ rfl
 exact good _ _ rfl
def partsOf (o : Opn) : List Pt :=
 if may o = true then
  (if o.kind = 1 then [⟨1, upB (upB o.path), upB o.path, [], 0, 0, false⟩, ⟨2, upB o.path, o.path, o.data, 0, o.own, o.turns⟩]
  else if o.kind = 2 then [⟨3, upB o.path, o.path, [], o.ver, 0, false⟩, ⟨4, o.path, o.path, [], 0, 0, false⟩]
  else if o.kind = 3 then [⟨5, upB o.path, o.path, o.data, o.ver, 0, false⟩]
  else if o.kind = 4 then [⟨6, upB o.path, o.path, [], o.ver, 0, false⟩]
  else if o.kind = 5 then [⟨7, upB o.path, o.path, [], 0, 0, false⟩]
  else if o.kind = 6 then [⟨8, upB o.path, o.path, [], 0, 0, false⟩, ⟨9, o.path, o.path, [], 0, 0, false⟩]
  else [⟨8, upB o.path, o.path, [], 0, 0, false⟩, ⟨10, o.path, o.path, [], 0, o.own, false⟩])
 else []
theorem upB_ok (p : Bs) : (split (upB p)).isSome = true := by
 unfold upB
 cases h : parent p with
 | none => rfl
 | some u => ?_
 simp only [Option.getD_some]
 obtain ⟨ps, hs, hj, _⟩ := parent_some h
 unfold join at hj
 cases hu : split u with
 | none => rw [hu] at hj; cases hj
 | some _ => rfl
end Pm
namespace Pm
def tn (t : Tu) : Nd := ⟨t.dir, [], 0, t.next, 0⟩
theorem tn_inj {a b : Tu} (h : tn a = tn b) : a = b := by
 obtain ⟨_, _⟩ := a; obtain ⟨_, _⟩ := b
 unfold tn at h; injection h with h1 _ _ h2 _; subst h1 h2; rfl
theorem ascT_iff {l : List Tu} : AscT l ↔ Asc (l.map tn) := by
 constructor
 ·intro h i j hi hj hij
  simp only [List.length_map] at hi hj
  simp only [List.getElem_map]
  exact h i j hi hj hij
 intro h i j hi hj hij
 have := h i j (by simpa using hi) (by simpa using hj) hij
 simp only [List.getElem_map] at this
 exact this
theorem find_tn (l : List Tu) (p : Bs) : find (l.map tn) p = (findT l p).map tn := by
 unfold find findT
 rw [List.find?_map]; rfl
theorem place_tn (l : List Tu) (p : Bs) : place (l.map tn) p = placeT l p := by
 unfold place placeT
 rw [List.countP_map]; rfl
theorem ins_tn (l : List Tu) (k : Nat) (x : Tu) : (insT l k x).map tn = ins (l.map tn) k (tn x) := by
 unfold insT ins
 rw [List.map_append, List.map_cons, List.map_take, List.map_drop]
theorem erase_tn : ∀ (l : List Tu) (k : Nat), (l.eraseIdx k).map tn = (l.map tn).eraseIdx k
 | [], k => by simp
 | a :: l, 0 => rfl
 | a :: l, k + 1 => by rw [List.eraseIdx_cons_succ, List.map_cons, List.map_cons, List.eraseIdx_cons_succ, erase_tn l k]
theorem map_tn_inj : ∀ {a b : List Tu}, a.map tn = b.map tn → a = b
 | [], [], _ => rfl
 | [], _ :: _, h => by cases h
 | _ :: _, [], h => by cases h
 | x :: a, y :: b, h => by
  rw [List.map_cons, List.map_cons] at h
  injection h with h1 h2
  rw [tn_inj h1, map_tn_inj h2]
theorem findT_none {l : List Tu} {p : Bs} : findT l p = none ↔ ∀ t ∈ l, t.dir ≠ p := by
 unfold findT; rw [List.find?_eq_none]; simp
theorem findT_mem {l : List Tu} {p : Bs} {t : Tu} (h : findT l p = some t) : t ∈ l ∧ t.dir = p := by
 unfold findT at h
 exact ⟨List.mem_of_find?_eq_some h, by simpa using List.find?_some h⟩
theorem eraseT {l : List Tu} (h : AscT l) {p : Bs} {t : Tu} (ht : findT l p = some t) : l.eraseIdx (placeT l p) = l.filter (fun t => t.dir != p) := by
 have hA := ascT_iff.1 h
 have hf : find (l.map tn) p = some (tn t) := by rw [find_tn, ht]; rfl
 have e := filter_erase hA hf
 rw [place_tn, ← erase_tn, List.filter_map] at e
 exact (map_tn_inj e)
theorem ascT_filter {l : List Tu} (h : AscT l) (q : Tu → Bool) : AscT (l.filter q) := by
 have : l.Pairwise (fun a b => lt a.dir b.dir = true) := by rw [List.pairwise_iff_getElem]; exact h
 have h2 := this.filter q
 rw [List.pairwise_iff_getElem] at h2; exact h2
theorem placeT_filter {l : List Tu} (p : Bs) : placeT (l.filter (fun t => t.dir != p)) p = placeT l p := by
 unfold placeT
 rw [List.countP_filter]
 apply List.countP_congr
 intro t _
 simp only [Bool.and_eq_true, bne_iff_ne]
 constructor
 ·exact fun k => k.1
 exact fun k => ⟨k, lt_ne k⟩
theorem ascT_ins {l : List Tu} (h : AscT l) {p : Bs} (n : Int) (hn : findT l p = none) : AscT (insT l (placeT l p) ⟨p, n⟩) := by
 rw [ascT_iff, ins_tn, ← place_tn]
 exact (ascT_iff.1 h).ins (tn ⟨p, n⟩) (by rw [show (tn ⟨p, n⟩).path = p from rfl, find_tn, hn]; rfl)
theorem mem_insT {l : List Tu} {k : Nat} {x y : Tu} (h : y ∈ insT l k x) : y = x ∨ y ∈ l := by
 unfold insT at h
 rw [List.mem_append, List.mem_cons] at h
 rcases h with h | h | h
 ·exact .inr (List.mem_of_mem_take h)
 ·exact .inl h
 exact .inr (List.mem_of_mem_drop h)
theorem setT_eq {l : List Tu} (h : AscT l) (p : Bs) (n : Int) : setT l p n = if n ≠ 0 then insT (l.filter (fun t => t.dir != p)) (placeT (l.filter (fun t => t.dir != p)) p) ⟨p, n⟩ else l.filter (fun t => t.dir != p) := by
 unfold setT
 rw [placeT_filter]
 cases hf : findT l p with
 | some t => simp only [Option.isSome_some, if_true]; rw [eraseT h hf]
 | none => ?_
 have : l.filter (fun t => t.dir != p) = l := by rw [List.filter_eq_self]; intro t ht; simpa using findT_none.1 hf t ht
 simp only [Option.isSome_none, Bool.false_eq_true, if_false]; rw [this]
theorem setT_right {l : List Tu} (h : AscT l) (hf : ∀ t ∈ l, tfit t = true) {p : Bs} {n : Int} (hp : (split p).isSome = true) (h0 : 0 ≤ n) (h1 : n ≤ 10000) :
  AscT (setT l p n) ∧ ∀ t ∈ setT l p n, tfit t = true := by
 rw [setT_eq h]
 have hA := ascT_filter h (fun t => t.dir != p)
 have hn : findT (l.filter (fun t => t.dir != p)) p = none := by
  rw [findT_none]; intro t ht; have := (List.mem_filter.1 ht).2; simpa using this
 split
 ·rename_i hne
  refine ⟨ascT_ins hA n hn, fun t ht => ?_⟩
  rcases mem_insT ht with rfl | ht
  ·unfold tfit; simp only [hp, Bool.true_and, decide_eq_true_eq]; omega
  exact hf t (List.mem_filter.1 ht).1
 exact ⟨hA, fun t ht => hf t (List.mem_filter.1 ht).1⟩
theorem turnOf_bounds {l : List Tu} (hf : ∀ t ∈ l, tfit t = true) (p : Bs) : 0 ≤ turnOf l p ∧ turnOf l p ≤ 10000 := by
 unfold turnOf
 cases h : findT l p with
 | none => simp
 | some t => ?_
 have := hf t (findT_mem h).1
 unfold tfit at this
 simp only [Bool.and_eq_true, decide_eq_true_eq] at this
 simp only [Option.map_some, Option.getD_some]; omega
theorem sfit_iff (n : Nd) : sfit n = true ↔ (split n.path).isSome = true ∧ n.data.length ≤ 256 ∧ n.turn = 0 ∧ ¬ (n.path = [47] ∧ n.own ≠ 0) ∧ 0 ≤ n.ver ∧ n.ver ≤ 281474976710656 ∧ 0 ≤ n.own ∧ n.own ≤ 1099511627776 := by
 unfold sfit; rw [Bool.and_eq_true, decide_eq_true_eq]
theorem mayP_iff (x : Pt) : mayP x = true ↔ (1 ≤ x.kind ∧ x.kind ≤ 10) ∧ (split x.path).isSome = true ∧ x.dir = keptAt x.kind x.path ∧ ¬ (x.kind = 2 ∧ x.path = [47]) ∧ x.data.length ≤ 256 ∧ -1 ≤ x.ver ∧ x.ver ≤ 281474976710656 ∧ 0 ≤ x.own ∧ x.own ≤ 1099511627776 := by
 unfold mayP; simp only [Bool.and_eq_true, decide_eq_true_eq, and_assoc]
end Pm
namespace Pm
theorem newPath_some {s : St} {x : Pt} {q : Bs} (hm : mayP x = true) (hk : x.kind = 2) (h : newPath s x = some q) :
  (split q).isSome = true ∧ q ≠ [47] ∧ parent q = some x.dir ∧ (x.turns = true → turnOf s.turns x.dir ≤ 9999) := by
 obtain ⟨_, hp, hd, hr, _⟩ := (mayP_iff x).1 hm
 have hdir : x.dir = upB x.path := by rw [hd, hk]; rfl
 unfold newPath at h
 split at h
 ·cases hn : numbered (last x.path) (turnOf s.turns x.dir) with
  | none => rw [hn] at h; cases h
  | some y =>
   rw [hn] at h
   obtain ⟨cs, h1, h2, _⟩ := join_some (show join x.dir y = some q from h)
   exact ⟨by rw [h1]; rfl, parent_ne_root h2, h2, fun _ => (numbered_turn hn).2⟩
 rename_i ht
 obtain rfl := Option.some.inj h
 have hne : x.path ≠ [47] := fun e => hr ⟨hk, e⟩
 refine ⟨hp, hne, ?_, fun k => absurd k ht⟩
 cases hpp : parent x.path with
 | none => have := (parent_none hpp).1; rw [hp] at this; exact absurd (by simpa using this.symm) hne
 | some u => rw [hdir]; unfold upB; rw [hpp]; rfl
theorem mayP_mk {k : Int} {d q data : Bs} {ver own : Int} {t : Bool} (hk : 1 ≤ k ∧ k ≤ 10) (hs : (split q).isSome = true) (hd : d = keptAt k q) (hr : ¬ (k = 2 ∧ q = [47]))
  (h1 : data.length ≤ 256) (h2 : -1 ≤ ver) (h3 : ver ≤ 281474976710656) (h4 : 0 ≤ own) (h5 : own ≤ 1099511627776) : mayP ⟨k, d, q, data, ver, own, t⟩ = true :=
 (mayP_iff _).2 ⟨hk, hs, hd, hr, h1, h2, h3, h4, h5⟩
theorem StR.put {s : St} (h : StR s) {x : Pt} (hm : mayP x = true) (hk : x.kind = 2) : StR (putS s x).1 := by
 obtain ⟨_, hp, hd, hr, hl⟩ := (mayP_iff x).1 hm
 unfold putS
 split
 ·exact h
 rename_i q hq
 obtain ⟨h1, h2, h3, h4⟩ := newPath_some hm hk hq
 split
 ·exact h
 rename_i hf
 have hn : find s.nodes q = none := by simpa using hf
 have hdv : (split x.dir).isSome = true := by rw [hd, hk]; exact upB_ok _
 have htb := turnOf_bounds h.tfit x.dir
 have hT : AscT (if x.turns = true then setT s.turns x.dir (turnOf s.turns x.dir + 1) else s.turns) ∧ ∀ t ∈ (if x.turns = true then setT s.turns x.dir (turnOf s.turns x.dir + 1) else s.turns), Pm.tfit t = true := by
  split
  ·rename_i ht; exact setT_right h.tasc h.tfit hdv (by omega) (by have := h4 ht; omega)
  exact ⟨h.tasc, h.tfit⟩
 refine ⟨fun n hn' => ?_, ?_, hT.2, hT.1⟩
 ·rcases mem_ins.1 hn' with rfl | k
  ·rw [sfit_iff]; exact ⟨h1, hl.1, rfl, fun k => h2 k.1, Int.le_refl 0, (show (0 : Int) ≤ 281474976710656 by decide), hl.2.2.2.1, hl.2.2.2.2⟩
  exact h.fit n k
 exact h.asc.ins ⟨q, x.data, 0, 0, x.own⟩ hn
theorem mem_erase {l : List Nd} {k : Nat} {n : Nd} (h : n ∈ l.eraseIdx k) : n ∈ l := List.mem_of_mem_eraseIdx h
theorem StR.doP {s : St} (h : StR s) {x : Pt} (hm : mayP x = true) : StR (Pm.doP s x).1 := by
 obtain ⟨hk, hp, hd, hr, hl⟩ := (mayP_iff x).1 hm
 unfold Pm.doP
 split
 ·rename_i k; exact h.put hm k
 split
 ·split
  ·have := setT_right h.tasc h.tfit hp (Int.le_refl 0) (by decide)
   exact ⟨h.fit, h.asc, this.2, this.1⟩
  exact h
 split
 ·exact h
 split
 ·exact ⟨fun n hn => h.fit n (List.mem_filter.1 hn).1, h.asc.filter _, h.tfit, h.tasc⟩
 split
 ·exact h
 rename_i n hf
 split
 ·exact h
 split
 ·split <;> exact h
 split
 ·refine ⟨fun m hm => h.fit m (mem_erase hm), ?_, h.tfit, h.tasc⟩
  show Asc (s.nodes.eraseIdx (place s.nodes x.path))
  rw [filter_erase h.asc hf]; exact h.asc.filter _
 split
 ·split
  ·exact h
  rename_i hv
  obtain ⟨hk2, e⟩ := find_at h.asc hf
  have hn := (sfit_iff n).1 (h.fit n (find_mem hf).1)
  refine ⟨fun m hm => ?_, h.asc.set hk2 _ (by rw [e]), h.tfit, h.tasc⟩
  rcases List.mem_or_eq_of_mem_set hm with k | rfl
  ·exact h.fit m k
  rw [sfit_iff]
  obtain ⟨a1, a2, a3, a4, a5, a6, a7, a8⟩ := hn
  exact ⟨a1, hl.1, a3, a4, by simp only; omega, by simp only; omega, a7, a8⟩
 split
 ·exact h
 split
 ·exact h
 exact h
theorem partsOf_may (o : Opn) : ∀ x ∈ partsOf o, mayP x = true ∧ (x.dir = x.path ∨ x.dir = upB x.path) ∧ x.path.length ≤ 100 := by
 intro x hx
 unfold partsOf at hx
 split at hx
 ·rename_i hm
  have hs := may_split hm
  have ho := may_own hm
  have hv : -1 ≤ o.ver ∧ o.ver ≤ 281474976710656 := by
   have hk := may_kind hm
   unfold may at hm
   simp only [Bool.and_eq_true] at hm
   have := hm.2
   rcases hk with k | k | k | k | k | k | k <;> simp [k] at this <;> omega
  have hlen : o.path.length ≤ 100 := by
   obtain ⟨ps, hps⟩ := Option.isSome_iff_exists.1 hs
   obtain ⟨hP, e⟩ := (split_iff _ _).1 hps
   rw [← e]; exact joinP_len hP
  have hul : ∀ p : Bs, p.length ≤ 100 → (upB p).length ≤ 100 := fun p h => by
   unfold upB
   cases hp : parent p with
   | none => simp
   | some u => obtain ⟨_, _, _, h1, _⟩ := parent_some hp; exact h1
  have hus := upB_ok o.path
  split at hx
  ·rename_i k
   obtain ⟨u, hu⟩ := may_parent hm (.inl k)
   simp only [List.mem_cons, List.not_mem_nil, or_false] at hx
   rcases hx with rfl | rfl
   ·exact ⟨mayP_mk (by decide) (hus) (rfl) (fun k => by have := k.1; simp at this) (by simp) (by decide) (by decide) (by decide) (by decide), .inr rfl, hul _ hlen⟩
   exact ⟨mayP_mk (by decide) (hs) (rfl) (fun k => parent_ne_root hu k.2) (ho.1) (by decide) (by decide) (ho.2.1) (ho.2.2), .inr rfl, hlen⟩
  split at hx
  ·simp only [List.mem_cons, List.not_mem_nil, or_false] at hx
   rcases hx with rfl | rfl
   ·exact ⟨mayP_mk (by decide) (hs) (rfl) (fun k => by have := k.1; simp at this) (by simp) (hv.1) (hv.2) (by decide) (by decide), .inr rfl, hlen⟩
   exact ⟨mayP_mk (by decide) (hs) (rfl) (fun k => by have := k.1; simp at this) (by simp) (by decide) (by decide) (by decide) (by decide), .inl rfl, hlen⟩
  split at hx
  ·simp only [List.mem_cons, List.not_mem_nil, or_false] at hx
   subst hx
   exact ⟨mayP_mk (by decide) (hs) (rfl) (fun k => by have := k.1; simp at this) (ho.1) (hv.1) (hv.2) (by decide) (by decide), .inr rfl, hlen⟩
  split at hx
  ·simp only [List.mem_cons, List.not_mem_nil, or_false] at hx
   subst hx
   exact ⟨mayP_mk (by decide) (hs) (rfl) (fun k => by have := k.1; simp at this) (by simp) (hv.1) (hv.2) (by decide) (by decide), .inr rfl, hlen⟩
  split at hx
  ·simp only [List.mem_cons, List.not_mem_nil, or_false] at hx
   subst hx
   exact ⟨mayP_mk (by decide) (hs) (rfl) (fun k => by have := k.1; simp at this) (by simp) (by decide) (by decide) (by decide) (by decide), .inr rfl, hlen⟩
  split at hx
  ·simp only [List.mem_cons, List.not_mem_nil, or_false] at hx
   rcases hx with rfl | rfl
   ·exact ⟨mayP_mk (by decide) (hs) (rfl) (fun k => by have := k.1; simp at this) (by simp) (by decide) (by decide) (by decide) (by decide), .inr rfl, hlen⟩
   exact ⟨mayP_mk (by decide) (hs) (rfl) (fun k => by have := k.1; simp at this) (by simp) (by decide) (by decide) (by decide) (by decide), .inl rfl, hlen⟩
  simp only [List.mem_cons, List.not_mem_nil, or_false] at hx
  rcases hx with rfl | rfl
  ·exact ⟨mayP_mk (by decide) (hs) (rfl) (fun k => by have := k.1; simp at this) (by simp) (by decide) (by decide) (by decide) (by decide), .inr rfl, hlen⟩
  exact ⟨mayP_mk (by decide) (hs) (rfl) (fun k => by have := k.1; simp at this) (by simp) (by decide) (by decide) (ho.2.1) (ho.2.2), .inl rfl, hlen⟩
 simp at hx
end Pm
end Go.Proofs.YtphoglepiegeiaaGreatDoor
