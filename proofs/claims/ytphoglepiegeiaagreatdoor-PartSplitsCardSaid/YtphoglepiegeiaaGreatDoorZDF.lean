/- A text of this proof. -/
import Derived.Test.YtphoglepiegeiaaGreatDoorZDB
import Derived.Test.YtphoglepiegeiaaGreatDoorZDD
import Derived.Test.YtphoglepiegeiaaGreatDoorZDE
set_option linter.unusedSimpArgs false
set_option linter.unusedVariables false
namespace Go.Proofs.YtphoglepiegeiaaGreatDoor
set_option maxRecDepth 20000
open Go.RowKit Pm
set_option maxHeartbeats 400000 in
theorem upP_c (p : Bs) (w : World) (hl : p.length ≤ 1000000) :
  Calls Tryz.prog 77 #[.string (B p)] w fun e w' => e = .returned (.string (B (upB p))) ∧ Fp Non w w' := by
 have hpa := fun w => Parent_g p w (sz_of hl (by omega))
 cases h : parent p with
 | none =>
  rw [h] at hpa
  simp only [Option.getD_none, Option.isSome_none] at hpa
  have e : upB p = [47] := by unfold upB; rw [h]; rfl
  rw [e]
  have HP := Lib.hid hpa
  clear hpa hl h e
  go_enter Tryz.func77, Tryz.ntmps77
  go_wp2_with fail
  refine (HP.out _).mono ?_
  rintro e w1 ⟨rfl, g1⟩
  have F := Lib.hid g1.fp
  clear g1
  go_wp2
  go_ret
  exact ⟨rfl, F.out⟩
 | some u => ?_
 rw [h] at hpa
 simp only [Option.getD_some, Option.isSome_some] at hpa
 have e : upB p = u := by unfold upB; rw [h]; rfl
 rw [e]
 have HP := Lib.hid hpa
 clear hpa hl h e
 go_enter Tryz.func77, Tryz.ntmps77
 go_wp2_with fail
 refine (HP.out _).mono ?_
 rintro e w1 ⟨rfl, g1⟩
 have F := Lib.hid g1.fp
 clear g1
 go_wp2
 go_ret
 exact ⟨rfl, F.out⟩
set_option maxHeartbeats 1000000 in
theorem keptAt_c (k : Int) (p : Bs) (w : World) (hl : p.length ≤ 1000000) :
  Calls Tryz.prog 68 #[.int .i64 k, .string (B p)] w fun e w' => e = .returned (.string (B (keptAt k p))) ∧ Fp Non w w' := by
 have hup := fun w => upP_c p w hl
 have HU := Lib.hid hup
 by_cases h : k = 4 ∨ k = 9 ∨ k = 10
 ·have e : keptAt k p = p := by unfold keptAt; rw [if_pos h]
  rw [e]
  clear hup hl e
  rcases h with rfl | rfl | rfl
  ·go_enter Tryz.func68, Tryz.ntmps68
   go_wp2
   go_ret
   exact ⟨rfl, Fp.refl _ _⟩
  ·go_enter Tryz.func68, Tryz.ntmps68
   go_wp2
   go_ret
   exact ⟨rfl, Fp.refl _ _⟩
  go_enter Tryz.func68, Tryz.ntmps68
  go_wp2
  go_ret
  exact ⟨rfl, Fp.refl _ _⟩
 have e : keptAt k p = upB p := by unfold keptAt; rw [if_neg h]
 rw [e]
 have q4 : (k == 4) = false := beq_eq_false_iff_ne.2 (fun e => h (.inl e))
 have q9 : (k == 9) = false := beq_eq_false_iff_ne.2 (fun e => h (.inr (.inl e)))
 have q10 : (k == 10) = false := beq_eq_false_iff_ne.2 (fun e => h (.inr (.inr e)))
 clear hup hl e h
 go_enter Tryz.func68, Tryz.ntmps68
 go_wp2_with fail
 refine (HU.out _).mono ?_
 rintro e w1 ⟨rfl, hf⟩
 have F := Lib.hid hf
 clear hf
 go_wp2
 go_ret
 exact ⟨rfl, F.out⟩
theorem withinP_c (n a b : Int) (w : World) :
  Calls Tryz.prog 65 #[.int .i64 n, .int .i64 a, .int .i64 b] w fun e w' => e = .returned (.bool (decide (a ≤ n ∧ n ≤ b))) ∧ w = w' := by
 go_enter Tryz.func65, Tryz.ntmps65
 go_wp2
 all_goals (go_ret; refine ⟨ret_bool ?_, rfl⟩; simp; omega)
theorem withinP_d (n a b : Int) (w : World) (r : Bool) (hr : decide (a ≤ n ∧ n ≤ b) = r) :
  Calls Tryz.prog 65 #[.int .i64 n, .int .i64 a, .int .i64 b] w fun e w' => e = .returned (.bool r) ∧ w = w' := by
 rw [← hr]; exact withinP_c n a b w
set_option maxHeartbeats 400000 in
theorem refusedP_c (x : Int) (w : World) :
  Calls Tryz.prog 54 #[.int .i64 x] w fun e w' => e = .returned (badV x) ∧ Fp Non w w' := by
 go_enter Tryz.func54, Tryz.ntmps54
 go_wp2
 exact bodyPost_ret (v := badV x) (by simp [results, Tryz.results54, go_sem, badV]) rfl ⟨rfl, (Fp.refl Non w).alloc _⟩
theorem boxP5 {w : World} {b : Nat} {T : TypeId} {c0 c1 c2 c3 c4 : Value} (h : w.heap[b]? = some (.cells #[c0, c1, c2, c3, c4] T (0, 0))) :
  w.cell? ⟨b, 0, none⟩ = some c0 ∧ w.cell? ⟨b, 1, none⟩ = some c1 ∧ w.cell? ⟨b, 2, none⟩ = some c2 ∧ w.cell? ⟨b, 3, none⟩ = some c3 ∧ w.cell? ⟨b, 4, none⟩ = some c4 :=
 ⟨by rw [cell_of_row _ _ _ _ _ _ h]; rfl, by rw [cell_of_row _ _ _ _ _ _ h]; rfl, by rw [cell_of_row _ _ _ _ _ _ h]; rfl, by rw [cell_of_row _ _ _ _ _ _ h]; rfl, by rw [cell_of_row _ _ _ _ _ _ h]; rfl⟩
set_option maxHeartbeats 8000000 in
theorem fitsP_c (n : Nd) (w : World) (hl : n.path.length ≤ 1000000) :
  Calls Tryz.prog 63 #[ndV n] w fun e w' => e = .returned (.bool (sfit n)) ∧ Fp Non w w' := by
 have hri := fun w => Right_g n.path w (sz_of hl (by omega))
 obtain ⟨p, d, v, t, o⟩ := n
 obtain ⟨sp, hsp⟩ : ∃ b, (split p).isSome = b := ⟨_, rfl⟩
 simp only at hri
 rw [hsp] at hri
 obtain ⟨b1, h1⟩ : ∃ r, decide ((0 : Int) ≤ v ∧ v ≤ 281474976710656) = r := ⟨_, rfl⟩
 obtain ⟨b3, h3⟩ : ∃ r, decide ((0 : Int) ≤ o ∧ o ≤ 1099511627776) = r := ⟨_, rfl⟩
 obtain ⟨k, hk⟩ : ∃ k, k = d.length := ⟨_, rfl⟩
 have W1 := Lib.hid (fun w => withinP_d v 0 281474976710656 w b1 h1)
 have W3 := Lib.hid (fun w => withinP_d o 0 1099511627776 w b3 h3)
 obtain ⟨r, hr⟩ : ∃ r, sfit ⟨p, d, v, t, o⟩ = r := ⟨_, rfl⟩
 have key : r = (sp && decide (k ≤ 256) && decide (t = 0) && !(decide (p = [47]) && decide (o ≠ 0)) && b1 && b3) := by
  rw [← hr, ← hsp, ← h1, ← h3, hk]
  by_cases a1 : p = [47] <;> by_cases a2 : o = 0 <;> (rw [Bool.eq_iff_iff, sfit_iff]; simp [a1, a2, and_assoc])
 have HR := Lib.hid hri
 have HK := Lib.hid key
 rw [hr]
 have hf0 := fp_alloc w (.cells #[.string (B p), .string (B d), .int .i64 v, .int .i64 t, .int .i64 o] TN)
 have hb0 := heap_alloc_new w (.cells #[.string (B p), .string (B d), .int .i64 v, .int .i64 t, .int .i64 o] TN)
 have HF0 := Lib.hid (And.intro hf0 hb0)
 unfold ndV strV
 clear hri hsp h1 h3 hr key hf0 hb0 hl
 cases sp with
 | false =>
  clear hk
  go_enter Tryz.func63, Tryz.ntmps63
  go_wp2_with fail
  refine (HR.out _).mono ?_
  rintro e w1 ⟨rfl, g1⟩
  have F := Lib.hid (HF0.out.1.then g1.fp)
  clear g1
  go_wp2
  go_ret
  exact ⟨ret_bool (by rw [HK.out]; rfl), F.out⟩
 | true => ?_
 have fin : ∀ c : Bool, (decide (k ≤ 256) && decide (t = 0) && !(decide (p = [47]) && decide (o ≠ 0)) && b1 && b3) = c → r = c := fun c h => by rw [HK.out, ← h]; rfl
 have HFin := Lib.hid fin
 clear fin HK
 by_cases hd : k ≤ 256
 ·have q1 : ((256 : Int) < (d.length : Int)) = False := eq_false (by omega)
  by_cases ht : t = 0
  ·have q2 : (t != 0) = false := by simp [ht]
   by_cases hp : p = [47]
   ·subst hp
    by_cases ho : o = 0
    ·have q3 : (o != 0) = false := by simp [ho]
     have Q := Lib.hid (And.intro hd (And.intro ht ho))
     clear hd hk ht ho
     go_enter Tryz.func63, Tryz.ntmps63
     go_wp2_with fail
     refine (HR.out _).mono ?_
     rintro e w1 ⟨rfl, g1⟩
     have F := Lib.hid (HF0.out.1.then g1.fp)
     obtain ⟨c0, c1, c2, c3, c4⟩ := boxP5 (g1.fp.heap HF0.out.2 id)
     clear g1
     cases b1 <;> cases b3
     all_goals
      go_wp2_with (first
       | (go_at_call_of 65 v; refine (W1.out _).mono ?_; rintro e w2 ⟨rfl, rfl⟩)
       | (go_at_call_of 65 o; refine (W3.out _).mono ?_; rintro e w2 ⟨rfl, rfl⟩))
      go_ret
      exact ⟨ret_bool (HFin.out _ (by simp [Q.out])).symm, F.out⟩
    have q3 : (o != 0) = true := by simp [ho]
    have Q := Lib.hid (And.intro hd (And.intro ht ho))
    clear hd hk ht ho
    go_enter Tryz.func63, Tryz.ntmps63
    go_wp2_with fail
    refine (HR.out _).mono ?_
    rintro e w1 ⟨rfl, g1⟩
    have F := Lib.hid (HF0.out.1.then g1.fp)
    obtain ⟨c0, c1, c2, c3, c4⟩ := boxP5 (g1.fp.heap HF0.out.2 id)
    clear g1
    go_wp2
    go_ret
    exact ⟨ret_bool (HFin.out _ (by simp [Q.out])).symm, F.out⟩
   have q4 : (p == [47]) = false := by simpa using hp
   have Q := Lib.hid (And.intro hd (And.intro ht hp))
   clear hd hk ht hp
   go_enter Tryz.func63, Tryz.ntmps63
   go_wp2_with fail
   refine (HR.out _).mono ?_
   rintro e w1 ⟨rfl, g1⟩
   have F := Lib.hid (HF0.out.1.then g1.fp)
   obtain ⟨c0, c1, c2, c3, c4⟩ := boxP5 (g1.fp.heap HF0.out.2 id)
   clear g1
   cases b1 <;> cases b3
   all_goals
    go_wp2_with (first
     | (go_at_call_of 65 v; refine (W1.out _).mono ?_; rintro e w2 ⟨rfl, rfl⟩)
     | (go_at_call_of 65 o; refine (W3.out _).mono ?_; rintro e w2 ⟨rfl, rfl⟩))
    go_ret
    exact ⟨ret_bool (HFin.out _ (by simp [Q.out])).symm, F.out⟩
  have q2 : (t != 0) = true := by simp [ht]
  have Q := Lib.hid (And.intro hd ht)
  clear hd hk ht
  go_enter Tryz.func63, Tryz.ntmps63
  go_wp2_with fail
  refine (HR.out _).mono ?_
  rintro e w1 ⟨rfl, g1⟩
  have F := Lib.hid (HF0.out.1.then g1.fp)
  obtain ⟨c0, c1, c2, c3, c4⟩ := boxP5 (g1.fp.heap HF0.out.2 id)
  clear g1
  go_wp2
  go_ret
  exact ⟨ret_bool (HFin.out _ (by simp [Q.out])).symm, F.out⟩
 have q1 : ((256 : Int) < (d.length : Int)) = True := eq_true (by omega)
 have Q := Lib.hid hd
 clear hd hk
 go_enter Tryz.func63, Tryz.ntmps63
 go_wp2_with fail
 refine (HR.out _).mono ?_
 rintro e w1 ⟨rfl, g1⟩
 have F := Lib.hid (HF0.out.1.then g1.fp)
 obtain ⟨c0, c1, c2, c3, c4⟩ := boxP5 (g1.fp.heap HF0.out.2 id)
 clear g1
 go_wp2
 go_ret
 exact ⟨ret_bool (HFin.out _ (by simp [Q.out])).symm, F.out⟩
set_option maxHeartbeats 8000000 in
theorem May_1 (o : Opn) (w : World) (hp : (split o.path).isSome = true) (hl : o.path.length ≤ 1000000) (hk : o.kind = 1) :
  Calls Tryz.prog 37 #[opV o] w fun e w' => e = .returned (.bool (may o)) ∧ Fp Non w w' := by
 obtain ⟨k, p, d, v, ow, t⟩ := o
 obtain rfl : k = 1 := hk
 unfold opV strV
 have hr := fun w => Right_g p w (sz_of hl (by omega))
 obtain ⟨m, hm⟩ : ∃ m, may ⟨1, p, d, v, ow, t⟩ = m := ⟨_, rfl⟩
 rw [hm]
 rw [show (split p).isSome = true from hp] at hr
 obtain ⟨bv, h1⟩ : ∃ r, decide ((-1 : Int) ≤ v ∧ v ≤ 281474976710656) = r := ⟨_, rfl⟩
 obtain ⟨bo, h2⟩ : ∃ r, decide ((0 : Int) ≤ ow ∧ ow ≤ 1099511627776) = r := ⟨_, rfl⟩
 obtain ⟨br, h3⟩ : ∃ r, (p == [47]) = r := ⟨_, rfl⟩
 obtain ⟨bl, h4⟩ : ∃ r, decide (d.length ≤ 256) = r := ⟨_, rfl⟩
 obtain ⟨bz, h5⟩ : ∃ r, (ow == 0) = r := ⟨_, rfl⟩
 have HV := Lib.hid (fun w => within_d v (-1) 281474976710656 w bv h1)
 have HO := Lib.hid (fun w => within_d ow 0 1099511627776 w bo h2)
 have HM := Lib.hid hm
 have HR := Lib.hid hr
 have HFI := Lib.hid fields_c
 have HBX := Lib.hid (fun w => heap_alloc_new w (.cells #[.int .i64 1, .string (B p), .string (B d), .int .i64 v, .int .i64 ow, .bool t] TO_))
 have HQ := Lib.hid (And.intro hp (And.intro h1 (And.intro h2 (And.intro h3 (And.intro h4 h5)))))
 have q4 : (((d.length : Int) ≤ 256) = (bl = true)) := by rw [← h4]; simp; omega
 have q5 : ((d.length ≤ 256) = (bl = true)) := by rw [← h4]; simp
 clear hm hr h1 h2 hp hl h5 h4
 have hix := fields_at1
 go_enter Tryz.func37, Tryz.ntmps37
 go_wp2_with fail
 refine (HR.out _).mono ?_
 rintro e w1 ⟨rfl, g1⟩
 have hb1 := (Fp.of_below g1).heap (HBX.out w) id
 have HF1 := Lib.hid (((Fp.refl Non w).alloc _).then g1.fp)
 have HB1 := Lib.hid hb1
 clear g1 hb1
 go_wp2_with fail
 refine wp_region_held_drew (S := (fun w' => w'.cell? ⟨w.heap.size, 0, none⟩ = some ((.int .i64 1)) ∧ w'.cell? ⟨w.heap.size, 1, none⟩ = some (.string (B p)) ∧ w'.cell? ⟨w.heap.size, 2, none⟩ = some (.string (B d)) ∧ w'.cell? ⟨w.heap.size, 3, none⟩ = some (.int .i64 v) ∧ w'.cell? ⟨w.heap.size, 4, none⟩ = some (.int .i64 ow) ∧ w'.cell? ⟨w.heap.size, 5, none⟩ = some (.bool t))) (by kernel_rfl) ?_ (fun hH => ?_)
 ·exact box6 ((Fp.refl Non w1).drew.heap HB1.out id)
 refine tk 1 hH ?_
 refine tk 2 hH ?_
 refine rY 0 fun K hK => ?_
 go_simp
 go_at_call 79
 refine (HFI.out _).mono ?_
 rintro e w2 ⟨rfl, f2⟩
 have hb2 := f2.heap (k := w.heap.size) ((Fp.refl Non w1).drew.heap HB1.out id) id
 have HB2 := Lib.hid hb2
 have HS2 := Lib.hid (box6 hb2)
 have HF2 := Lib.hid (HF1.out.then (((Fp.refl Non w1).drew).then f2))
 clear f2 hb2
 go_wp2_with fail
 refine hK.out _ _ HS2.out (fun hH => ?_)
 clear hK K
 try simp only [zz]
 refine tk 3 hH ?_
 refine tk 4 hH ?_
 refine dn ?_
 have s0 := HS2.out.1; have s1 := HS2.out.2.1; have s2 := HS2.out.2.2.1; have s3 := HS2.out.2.2.2.1; have s4 := HS2.out.2.2.2.2.1; have s5 := HS2.out.2.2.2.2.2
 have fz : ∀ j, w2.frozen? ⟨w.heap.size, j, none⟩ = false := fun j => by have := HB2.out; simp [World.frozen?, this]
 have z0 := fz 0; have z1 := fz 1; have z2 := fz 2; have z3 := fz 3; have z4 := fz 4; have z5 := fz 5
 clear fz
 have heq := eq_op
 clear hix
 cases br <;> cases bl <;> cases bo
 all_goals simp only [Bool.false_eq_true, eq_self] at q4 q5
 all_goals
  go_wp2_with (first
   | (go_at_call_of 80 v; refine (HV.out _).mono ?_; rintro e w1 ⟨rfl, rfl⟩)
   | (go_at_call_of 80 ow; refine (HO.out _).mono ?_; rintro e w1 ⟨rfl, rfl⟩))
  all_goals
   go_ret
   refine ⟨ret_bool ?_, ?_⟩
   ·rw [← HM.out]; unfold may; obtain ⟨g0, g1, g2, g3, g4, g5⟩ := HQ.out; clear HV HO HM HR HFI HBX HF1 HB1 HB2 HS2 HF2; by_cases hd : d = [] <;> by_cases hv0 : v = 0 <;> by_cases ho0 : ow = 0 <;> cases t <;> simp_all <;> omega
   first | exact HF2.out | (repeat (first | exact HF2.out | refine Fp.setCell ?_ (.inr (Nat.le_refl _)) _))
set_option maxHeartbeats 8000000 in
theorem May_2 (o : Opn) (w : World) (hp : (split o.path).isSome = true) (hl : o.path.length ≤ 1000000) (hk : o.kind = 2) :
  Calls Tryz.prog 37 #[opV o] w fun e w' => e = .returned (.bool (may o)) ∧ Fp Non w w' := by
 obtain ⟨k, p, d, v, ow, t⟩ := o
 obtain rfl : k = 2 := hk
 unfold opV strV
 have hr := fun w => Right_g p w (sz_of hl (by omega))
 obtain ⟨m, hm⟩ : ∃ m, may ⟨2, p, d, v, ow, t⟩ = m := ⟨_, rfl⟩
 rw [hm]
 rw [show (split p).isSome = true from hp] at hr
 obtain ⟨bv, h1⟩ : ∃ r, decide ((-1 : Int) ≤ v ∧ v ≤ 281474976710656) = r := ⟨_, rfl⟩
 obtain ⟨bo, h2⟩ : ∃ r, decide ((0 : Int) ≤ ow ∧ ow ≤ 1099511627776) = r := ⟨_, rfl⟩
 obtain ⟨br, h3⟩ : ∃ r, (p == [47]) = r := ⟨_, rfl⟩
 obtain ⟨bl, h4⟩ : ∃ r, decide (d.length ≤ 256) = r := ⟨_, rfl⟩
 obtain ⟨bz, h5⟩ : ∃ r, (ow == 0) = r := ⟨_, rfl⟩
 have HV := Lib.hid (fun w => within_d v (-1) 281474976710656 w bv h1)
 have HO := Lib.hid (fun w => within_d ow 0 1099511627776 w bo h2)
 have HM := Lib.hid hm
 have HR := Lib.hid hr
 have HFI := Lib.hid fields_c
 have HBX := Lib.hid (fun w => heap_alloc_new w (.cells #[.int .i64 2, .string (B p), .string (B d), .int .i64 v, .int .i64 ow, .bool t] TO_))
 have HQ := Lib.hid (And.intro hp (And.intro h1 (And.intro h2 (And.intro h3 (And.intro h4 h5)))))
 clear hm hr h1 h2 hp hl h5 h4
 have hix := fields_at2
 go_enter Tryz.func37, Tryz.ntmps37
 go_wp2_with fail
 refine (HR.out _).mono ?_
 rintro e w1 ⟨rfl, g1⟩
 have hb1 := (Fp.of_below g1).heap (HBX.out w) id
 have HF1 := Lib.hid (((Fp.refl Non w).alloc _).then g1.fp)
 have HB1 := Lib.hid hb1
 clear g1 hb1
 go_wp2_with fail
 refine wp_region_held_drew (S := (fun w' => w'.cell? ⟨w.heap.size, 0, none⟩ = some ((.int .i64 2)) ∧ w'.cell? ⟨w.heap.size, 1, none⟩ = some (.string (B p)) ∧ w'.cell? ⟨w.heap.size, 2, none⟩ = some (.string (B d)) ∧ w'.cell? ⟨w.heap.size, 3, none⟩ = some (.int .i64 v) ∧ w'.cell? ⟨w.heap.size, 4, none⟩ = some (.int .i64 ow) ∧ w'.cell? ⟨w.heap.size, 5, none⟩ = some (.bool t))) (by kernel_rfl) ?_ (fun hH => ?_)
 ·exact box6 ((Fp.refl Non w1).drew.heap HB1.out id)
 refine tk 1 hH ?_
 refine tk 2 hH ?_
 refine rY 0 fun K hK => ?_
 go_simp
 go_at_call 79
 refine (HFI.out _).mono ?_
 rintro e w2 ⟨rfl, f2⟩
 have hb2 := f2.heap (k := w.heap.size) ((Fp.refl Non w1).drew.heap HB1.out id) id
 have HB2 := Lib.hid hb2
 have HS2 := Lib.hid (box6 hb2)
 have HF2 := Lib.hid (HF1.out.then (((Fp.refl Non w1).drew).then f2))
 clear f2 hb2
 go_wp2_with fail
 refine hK.out _ _ HS2.out (fun hH => ?_)
 clear hK K
 try simp only [zz]
 refine tk 3 hH ?_
 refine tk 4 hH ?_
 refine dn ?_
 have s0 := HS2.out.1; have s1 := HS2.out.2.1; have s2 := HS2.out.2.2.1; have s3 := HS2.out.2.2.2.1; have s4 := HS2.out.2.2.2.2.1; have s5 := HS2.out.2.2.2.2.2
 have fz : ∀ j, w2.frozen? ⟨w.heap.size, j, none⟩ = false := fun j => by have := HB2.out; simp [World.frozen?, this]
 have z0 := fz 0; have z1 := fz 1; have z2 := fz 2; have z3 := fz 3; have z4 := fz 4; have z5 := fz 5
 clear fz
 have heq := eq_op
 clear hix
 cases br <;> cases bv
 all_goals
  go_wp2_with (first
   | (go_at_call_of 80 v; refine (HV.out _).mono ?_; rintro e w1 ⟨rfl, rfl⟩)
   | (go_at_call_of 80 ow; refine (HO.out _).mono ?_; rintro e w1 ⟨rfl, rfl⟩))
  all_goals
   go_ret
   refine ⟨ret_bool ?_, ?_⟩
   ·rw [← HM.out]; unfold may; obtain ⟨g0, g1, g2, g3, g4, g5⟩ := HQ.out; clear HV HO HM HR HFI HBX HF1 HB1 HB2 HS2 HF2; by_cases hd : d = [] <;> by_cases hv0 : v = 0 <;> by_cases ho0 : ow = 0 <;> cases t <;> simp_all <;> omega
   first | exact HF2.out | (repeat (first | exact HF2.out | refine Fp.setCell ?_ (.inr (Nat.le_refl _)) _))
set_option maxHeartbeats 8000000 in
theorem May_3 (o : Opn) (w : World) (hp : (split o.path).isSome = true) (hl : o.path.length ≤ 1000000) (hk : o.kind = 3) :
  Calls Tryz.prog 37 #[opV o] w fun e w' => e = .returned (.bool (may o)) ∧ Fp Non w w' := by
 obtain ⟨k, p, d, v, ow, t⟩ := o
 obtain rfl : k = 3 := hk
 unfold opV strV
 have hr := fun w => Right_g p w (sz_of hl (by omega))
 obtain ⟨m, hm⟩ : ∃ m, may ⟨3, p, d, v, ow, t⟩ = m := ⟨_, rfl⟩
 rw [hm]
 rw [show (split p).isSome = true from hp] at hr
 obtain ⟨bv, h1⟩ : ∃ r, decide ((-1 : Int) ≤ v ∧ v ≤ 281474976710656) = r := ⟨_, rfl⟩
 obtain ⟨bo, h2⟩ : ∃ r, decide ((0 : Int) ≤ ow ∧ ow ≤ 1099511627776) = r := ⟨_, rfl⟩
 obtain ⟨br, h3⟩ : ∃ r, (p == [47]) = r := ⟨_, rfl⟩
 obtain ⟨bl, h4⟩ : ∃ r, decide (d.length ≤ 256) = r := ⟨_, rfl⟩
 obtain ⟨bz, h5⟩ : ∃ r, (ow == 0) = r := ⟨_, rfl⟩
 have HV := Lib.hid (fun w => within_d v (-1) 281474976710656 w bv h1)
 have HO := Lib.hid (fun w => within_d ow 0 1099511627776 w bo h2)
 have HM := Lib.hid hm
 have HR := Lib.hid hr
 have HFI := Lib.hid fields_c
 have HBX := Lib.hid (fun w => heap_alloc_new w (.cells #[.int .i64 3, .string (B p), .string (B d), .int .i64 v, .int .i64 ow, .bool t] TO_))
 have HQ := Lib.hid (And.intro hp (And.intro h1 (And.intro h2 (And.intro h3 (And.intro h4 h5)))))
 have q4 : (((d.length : Int) ≤ 256) = (bl = true)) := by rw [← h4]; simp; omega
 have q5 : ((d.length ≤ 256) = (bl = true)) := by rw [← h4]; simp
 clear hm hr h1 h2 hp hl h3 h5 h4
 have hix := fields_at3
 go_enter Tryz.func37, Tryz.ntmps37
 go_wp2_with fail
 refine (HR.out _).mono ?_
 rintro e w1 ⟨rfl, g1⟩
 have hb1 := (Fp.of_below g1).heap (HBX.out w) id
 have HF1 := Lib.hid (((Fp.refl Non w).alloc _).then g1.fp)
 have HB1 := Lib.hid hb1
 clear g1 hb1
 go_wp2_with fail
 refine wp_region_held_drew (S := (fun w' => w'.cell? ⟨w.heap.size, 0, none⟩ = some ((.int .i64 3)) ∧ w'.cell? ⟨w.heap.size, 1, none⟩ = some (.string (B p)) ∧ w'.cell? ⟨w.heap.size, 2, none⟩ = some (.string (B d)) ∧ w'.cell? ⟨w.heap.size, 3, none⟩ = some (.int .i64 v) ∧ w'.cell? ⟨w.heap.size, 4, none⟩ = some (.int .i64 ow) ∧ w'.cell? ⟨w.heap.size, 5, none⟩ = some (.bool t))) (by kernel_rfl) ?_ (fun hH => ?_)
 ·exact box6 ((Fp.refl Non w1).drew.heap HB1.out id)
 refine tk 1 hH ?_
 refine tk 2 hH ?_
 refine rY 0 fun K hK => ?_
 go_simp
 go_at_call 79
 refine (HFI.out _).mono ?_
 rintro e w2 ⟨rfl, f2⟩
 have hb2 := f2.heap (k := w.heap.size) ((Fp.refl Non w1).drew.heap HB1.out id) id
 have HB2 := Lib.hid hb2
 have HS2 := Lib.hid (box6 hb2)
 have HF2 := Lib.hid (HF1.out.then (((Fp.refl Non w1).drew).then f2))
 clear f2 hb2
 go_wp2_with fail
 refine hK.out _ _ HS2.out (fun hH => ?_)
 clear hK K
 try simp only [zz]
 refine tk 3 hH ?_
 refine tk 4 hH ?_
 refine dn ?_
 have s0 := HS2.out.1; have s1 := HS2.out.2.1; have s2 := HS2.out.2.2.1; have s3 := HS2.out.2.2.2.1; have s4 := HS2.out.2.2.2.2.1; have s5 := HS2.out.2.2.2.2.2
 have fz : ∀ j, w2.frozen? ⟨w.heap.size, j, none⟩ = false := fun j => by have := HB2.out; simp [World.frozen?, this]
 have z0 := fz 0; have z1 := fz 1; have z2 := fz 2; have z3 := fz 3; have z4 := fz 4; have z5 := fz 5
 clear fz
 have heq := eq_op
 clear hix
 cases bl <;> cases bv
 all_goals simp only [Bool.false_eq_true, eq_self] at q4 q5
 all_goals
  go_wp2_with (first
   | (go_at_call_of 80 v; refine (HV.out _).mono ?_; rintro e w1 ⟨rfl, rfl⟩)
   | (go_at_call_of 80 ow; refine (HO.out _).mono ?_; rintro e w1 ⟨rfl, rfl⟩))
  all_goals
   go_ret
   refine ⟨ret_bool ?_, ?_⟩
   ·rw [← HM.out]; unfold may; obtain ⟨g0, g1, g2, g3, g4, g5⟩ := HQ.out; clear HV HO HM HR HFI HBX HF1 HB1 HB2 HS2 HF2; by_cases hd : d = [] <;> by_cases hv0 : v = 0 <;> by_cases ho0 : ow = 0 <;> cases t <;> simp_all <;> omega
   first | exact HF2.out | (repeat (first | exact HF2.out | refine Fp.setCell ?_ (.inr (Nat.le_refl _)) _))
set_option maxHeartbeats 8000000 in
theorem May_4 (o : Opn) (w : World) (hp : (split o.path).isSome = true) (hl : o.path.length ≤ 1000000) (hk : o.kind = 4) :
  Calls Tryz.prog 37 #[opV o] w fun e w' => e = .returned (.bool (may o)) ∧ Fp Non w w' := by
 obtain ⟨k, p, d, v, ow, t⟩ := o
 obtain rfl : k = 4 := hk
 unfold opV strV
 have hr := fun w => Right_g p w (sz_of hl (by omega))
 obtain ⟨m, hm⟩ : ∃ m, may ⟨4, p, d, v, ow, t⟩ = m := ⟨_, rfl⟩
 rw [hm]
 rw [show (split p).isSome = true from hp] at hr
 obtain ⟨bv, h1⟩ : ∃ r, decide ((-1 : Int) ≤ v ∧ v ≤ 281474976710656) = r := ⟨_, rfl⟩
 obtain ⟨bo, h2⟩ : ∃ r, decide ((0 : Int) ≤ ow ∧ ow ≤ 1099511627776) = r := ⟨_, rfl⟩
 obtain ⟨br, h3⟩ : ∃ r, (p == [47]) = r := ⟨_, rfl⟩
 obtain ⟨bl, h4⟩ : ∃ r, decide (d.length ≤ 256) = r := ⟨_, rfl⟩
 obtain ⟨bz, h5⟩ : ∃ r, (ow == 0) = r := ⟨_, rfl⟩
 have HV := Lib.hid (fun w => within_d v (-1) 281474976710656 w bv h1)
 have HO := Lib.hid (fun w => within_d ow 0 1099511627776 w bo h2)
 have HM := Lib.hid hm
 have HR := Lib.hid hr
 have HFI := Lib.hid fields_c
 have HBX := Lib.hid (fun w => heap_alloc_new w (.cells #[.int .i64 4, .string (B p), .string (B d), .int .i64 v, .int .i64 ow, .bool t] TO_))
 have HQ := Lib.hid (And.intro hp (And.intro h1 (And.intro h2 (And.intro h3 (And.intro h4 h5)))))
 clear hm hr h1 h2 hp hl h3 h5 h4
 have hix := fields_at4
 go_enter Tryz.func37, Tryz.ntmps37
 go_wp2_with fail
 refine (HR.out _).mono ?_
 rintro e w1 ⟨rfl, g1⟩
 have hb1 := (Fp.of_below g1).heap (HBX.out w) id
 have HF1 := Lib.hid (((Fp.refl Non w).alloc _).then g1.fp)
 have HB1 := Lib.hid hb1
 clear g1 hb1
 go_wp2_with fail
 refine wp_region_held_drew (S := (fun w' => w'.cell? ⟨w.heap.size, 0, none⟩ = some ((.int .i64 4)) ∧ w'.cell? ⟨w.heap.size, 1, none⟩ = some (.string (B p)) ∧ w'.cell? ⟨w.heap.size, 2, none⟩ = some (.string (B d)) ∧ w'.cell? ⟨w.heap.size, 3, none⟩ = some (.int .i64 v) ∧ w'.cell? ⟨w.heap.size, 4, none⟩ = some (.int .i64 ow) ∧ w'.cell? ⟨w.heap.size, 5, none⟩ = some (.bool t))) (by kernel_rfl) ?_ (fun hH => ?_)
 ·exact box6 ((Fp.refl Non w1).drew.heap HB1.out id)
 refine tk 1 hH ?_
 refine tk 2 hH ?_
 refine rY 0 fun K hK => ?_
 go_simp
 go_at_call 79
 refine (HFI.out _).mono ?_
 rintro e w2 ⟨rfl, f2⟩
 have hb2 := f2.heap (k := w.heap.size) ((Fp.refl Non w1).drew.heap HB1.out id) id
 have HB2 := Lib.hid hb2
 have HS2 := Lib.hid (box6 hb2)
 have HF2 := Lib.hid (HF1.out.then (((Fp.refl Non w1).drew).then f2))
 clear f2 hb2
 go_wp2_with fail
 refine hK.out _ _ HS2.out (fun hH => ?_)
 clear hK K
 try simp only [zz]
 refine tk 3 hH ?_
 refine tk 4 hH ?_
 refine dn ?_
 have s0 := HS2.out.1; have s1 := HS2.out.2.1; have s2 := HS2.out.2.2.1; have s3 := HS2.out.2.2.2.1; have s4 := HS2.out.2.2.2.2.1; have s5 := HS2.out.2.2.2.2.2
 have fz : ∀ j, w2.frozen? ⟨w.heap.size, j, none⟩ = false := fun j => by have := HB2.out; simp [World.frozen?, this]
 have z0 := fz 0; have z1 := fz 1; have z2 := fz 2; have z3 := fz 3; have z4 := fz 4; have z5 := fz 5
 clear fz
 have heq := eq_op
 clear hix
 cases bv
 all_goals
  go_wp2_with (first
   | (go_at_call_of 80 v; refine (HV.out _).mono ?_; rintro e w1 ⟨rfl, rfl⟩)
   | (go_at_call_of 80 ow; refine (HO.out _).mono ?_; rintro e w1 ⟨rfl, rfl⟩))
  all_goals
   go_ret
   refine ⟨ret_bool ?_, ?_⟩
   ·rw [← HM.out]; unfold may; obtain ⟨g0, g1, g2, g3, g4, g5⟩ := HQ.out; clear HV HO HM HR HFI HBX HF1 HB1 HB2 HS2 HF2; by_cases hd : d = [] <;> by_cases hv0 : v = 0 <;> by_cases ho0 : ow = 0 <;> cases t <;> simp_all <;> omega
   first | exact HF2.out | (repeat (first | exact HF2.out | refine Fp.setCell ?_ (.inr (Nat.le_refl _)) _))
set_option maxHeartbeats 8000000 in
theorem May_5 (o : Opn) (w : World) (hp : (split o.path).isSome = true) (hl : o.path.length ≤ 1000000) (hk : o.kind = 5) :
  Calls Tryz.prog 37 #[opV o] w fun e w' => e = .returned (.bool (may o)) ∧ Fp Non w w' := by
 obtain ⟨k, p, d, v, ow, t⟩ := o
 obtain rfl : k = 5 := hk
 unfold opV strV
 have hr := fun w => Right_g p w (sz_of hl (by omega))
 obtain ⟨m, hm⟩ : ∃ m, may ⟨5, p, d, v, ow, t⟩ = m := ⟨_, rfl⟩
 rw [hm]
 rw [show (split p).isSome = true from hp] at hr
 obtain ⟨bv, h1⟩ : ∃ r, decide ((-1 : Int) ≤ v ∧ v ≤ 281474976710656) = r := ⟨_, rfl⟩
 obtain ⟨bo, h2⟩ : ∃ r, decide ((0 : Int) ≤ ow ∧ ow ≤ 1099511627776) = r := ⟨_, rfl⟩
 obtain ⟨br, h3⟩ : ∃ r, (p == [47]) = r := ⟨_, rfl⟩
 obtain ⟨bl, h4⟩ : ∃ r, decide (d.length ≤ 256) = r := ⟨_, rfl⟩
 obtain ⟨bz, h5⟩ : ∃ r, (ow == 0) = r := ⟨_, rfl⟩
 have HV := Lib.hid (fun w => within_d v (-1) 281474976710656 w bv h1)
 have HO := Lib.hid (fun w => within_d ow 0 1099511627776 w bo h2)
 have HM := Lib.hid hm
 have HR := Lib.hid hr
 have HFI := Lib.hid fields_c
 have HBX := Lib.hid (fun w => heap_alloc_new w (.cells #[.int .i64 5, .string (B p), .string (B d), .int .i64 v, .int .i64 ow, .bool t] TO_))
 have HQ := Lib.hid (And.intro hp (And.intro h1 (And.intro h2 (And.intro h3 (And.intro h4 h5)))))
 clear hm hr h1 h2 hp hl h3 h5 h4
 have hix := fields_at5
 go_enter Tryz.func37, Tryz.ntmps37
 go_wp2_with fail
 refine (HR.out _).mono ?_
 rintro e w1 ⟨rfl, g1⟩
 have hb1 := (Fp.of_below g1).heap (HBX.out w) id
 have HF1 := Lib.hid (((Fp.refl Non w).alloc _).then g1.fp)
 have HB1 := Lib.hid hb1
 clear g1 hb1
 go_wp2_with fail
 refine wp_region_held_drew (S := (fun w' => w'.cell? ⟨w.heap.size, 0, none⟩ = some ((.int .i64 5)) ∧ w'.cell? ⟨w.heap.size, 1, none⟩ = some (.string (B p)) ∧ w'.cell? ⟨w.heap.size, 2, none⟩ = some (.string (B d)) ∧ w'.cell? ⟨w.heap.size, 3, none⟩ = some (.int .i64 v) ∧ w'.cell? ⟨w.heap.size, 4, none⟩ = some (.int .i64 ow) ∧ w'.cell? ⟨w.heap.size, 5, none⟩ = some (.bool t))) (by kernel_rfl) ?_ (fun hH => ?_)
 ·exact box6 ((Fp.refl Non w1).drew.heap HB1.out id)
 refine tk 1 hH ?_
 refine tk 2 hH ?_
 refine rY 0 fun K hK => ?_
 go_simp
 go_at_call 79
 refine (HFI.out _).mono ?_
 rintro e w2 ⟨rfl, f2⟩
 have hb2 := f2.heap (k := w.heap.size) ((Fp.refl Non w1).drew.heap HB1.out id) id
 have HB2 := Lib.hid hb2
 have HS2 := Lib.hid (box6 hb2)
 have HF2 := Lib.hid (HF1.out.then (((Fp.refl Non w1).drew).then f2))
 clear f2 hb2
 go_wp2_with fail
 refine hK.out _ _ HS2.out (fun hH => ?_)
 clear hK K
 try simp only [zz]
 refine tk 3 hH ?_
 refine tk 4 hH ?_
 refine dn ?_
 have s0 := HS2.out.1; have s1 := HS2.out.2.1; have s2 := HS2.out.2.2.1; have s3 := HS2.out.2.2.2.1; have s4 := HS2.out.2.2.2.2.1; have s5 := HS2.out.2.2.2.2.2
 have fz : ∀ j, w2.frozen? ⟨w.heap.size, j, none⟩ = false := fun j => by have := HB2.out; simp [World.frozen?, this]
 have z0 := fz 0; have z1 := fz 1; have z2 := fz 2; have z3 := fz 3; have z4 := fz 4; have z5 := fz 5
 clear fz
 have heq := eq_op
 clear hix
 go_wp2_with (first
  | (go_at_call_of 80 v; refine (HV.out _).mono ?_; rintro e w1 ⟨rfl, rfl⟩)
  | (go_at_call_of 80 ow; refine (HO.out _).mono ?_; rintro e w1 ⟨rfl, rfl⟩))
 all_goals
  go_ret
  refine ⟨ret_bool ?_, ?_⟩
  ·rw [← HM.out]; unfold may; obtain ⟨g0, g1, g2, g3, g4, g5⟩ := HQ.out; clear HV HO HM HR HFI HBX HF1 HB1 HB2 HS2 HF2; by_cases hd : d = [] <;> by_cases hv0 : v = 0 <;> by_cases ho0 : ow = 0 <;> cases t <;> simp_all <;> omega
  first | exact HF2.out | (repeat (first | exact HF2.out | refine Fp.setCell ?_ (.inr (Nat.le_refl _)) _))
set_option maxHeartbeats 8000000 in
theorem May_6 (o : Opn) (w : World) (hp : (split o.path).isSome = true) (hl : o.path.length ≤ 1000000) (hk : o.kind = 6) :
  Calls Tryz.prog 37 #[opV o] w fun e w' => e = .returned (.bool (may o)) ∧ Fp Non w w' := by
 obtain ⟨k, p, d, v, ow, t⟩ := o
 obtain rfl : k = 6 := hk
 unfold opV strV
 have hr := fun w => Right_g p w (sz_of hl (by omega))
 obtain ⟨m, hm⟩ : ∃ m, may ⟨6, p, d, v, ow, t⟩ = m := ⟨_, rfl⟩
 rw [hm]
 rw [show (split p).isSome = true from hp] at hr
 obtain ⟨bv, h1⟩ : ∃ r, decide ((-1 : Int) ≤ v ∧ v ≤ 281474976710656) = r := ⟨_, rfl⟩
 obtain ⟨bo, h2⟩ : ∃ r, decide ((0 : Int) ≤ ow ∧ ow ≤ 1099511627776) = r := ⟨_, rfl⟩
 obtain ⟨br, h3⟩ : ∃ r, (p == [47]) = r := ⟨_, rfl⟩
 obtain ⟨bl, h4⟩ : ∃ r, decide (d.length ≤ 256) = r := ⟨_, rfl⟩
 obtain ⟨bz, h5⟩ : ∃ r, (ow == 0) = r := ⟨_, rfl⟩
 have HV := Lib.hid (fun w => within_d v (-1) 281474976710656 w bv h1)
 have HO := Lib.hid (fun w => within_d ow 0 1099511627776 w bo h2)
 have HM := Lib.hid hm
 have HR := Lib.hid hr
 have HFI := Lib.hid fields_c
 have HBX := Lib.hid (fun w => heap_alloc_new w (.cells #[.int .i64 6, .string (B p), .string (B d), .int .i64 v, .int .i64 ow, .bool t] TO_))
 have HQ := Lib.hid (And.intro hp (And.intro h1 (And.intro h2 (And.intro h3 (And.intro h4 h5)))))
 clear hm hr h1 h2 hp hl h3 h5 h4
 have hix := fields_at6
 go_enter Tryz.func37, Tryz.ntmps37
 go_wp2_with fail
 refine (HR.out _).mono ?_
 rintro e w1 ⟨rfl, g1⟩
 have hb1 := (Fp.of_below g1).heap (HBX.out w) id
 have HF1 := Lib.hid (((Fp.refl Non w).alloc _).then g1.fp)
 have HB1 := Lib.hid hb1
 clear g1 hb1
 go_wp2_with fail
 refine wp_region_held_drew (S := (fun w' => w'.cell? ⟨w.heap.size, 0, none⟩ = some ((.int .i64 6)) ∧ w'.cell? ⟨w.heap.size, 1, none⟩ = some (.string (B p)) ∧ w'.cell? ⟨w.heap.size, 2, none⟩ = some (.string (B d)) ∧ w'.cell? ⟨w.heap.size, 3, none⟩ = some (.int .i64 v) ∧ w'.cell? ⟨w.heap.size, 4, none⟩ = some (.int .i64 ow) ∧ w'.cell? ⟨w.heap.size, 5, none⟩ = some (.bool t))) (by kernel_rfl) ?_ (fun hH => ?_)
 ·exact box6 ((Fp.refl Non w1).drew.heap HB1.out id)
 refine tk 1 hH ?_
 refine tk 2 hH ?_
 refine rY 0 fun K hK => ?_
 go_simp
 go_at_call 79
 refine (HFI.out _).mono ?_
 rintro e w2 ⟨rfl, f2⟩
 have hb2 := f2.heap (k := w.heap.size) ((Fp.refl Non w1).drew.heap HB1.out id) id
 have HB2 := Lib.hid hb2
 have HS2 := Lib.hid (box6 hb2)
 have HF2 := Lib.hid (HF1.out.then (((Fp.refl Non w1).drew).then f2))
 clear f2 hb2
 go_wp2_with fail
 refine hK.out _ _ HS2.out (fun hH => ?_)
 clear hK K
 try simp only [zz]
 refine tk 3 hH ?_
 refine tk 4 hH ?_
 refine dn ?_
 have s0 := HS2.out.1; have s1 := HS2.out.2.1; have s2 := HS2.out.2.2.1; have s3 := HS2.out.2.2.2.1; have s4 := HS2.out.2.2.2.2.1; have s5 := HS2.out.2.2.2.2.2
 have fz : ∀ j, w2.frozen? ⟨w.heap.size, j, none⟩ = false := fun j => by have := HB2.out; simp [World.frozen?, this]
 have z0 := fz 0; have z1 := fz 1; have z2 := fz 2; have z3 := fz 3; have z4 := fz 4; have z5 := fz 5
 clear fz
 have heq := eq_op
 clear hix
 go_wp2_with (first
  | (go_at_call_of 80 v; refine (HV.out _).mono ?_; rintro e w1 ⟨rfl, rfl⟩)
  | (go_at_call_of 80 ow; refine (HO.out _).mono ?_; rintro e w1 ⟨rfl, rfl⟩))
 all_goals
  go_ret
  refine ⟨ret_bool ?_, ?_⟩
  ·rw [← HM.out]; unfold may; obtain ⟨g0, g1, g2, g3, g4, g5⟩ := HQ.out; clear HV HO HM HR HFI HBX HF1 HB1 HB2 HS2 HF2; by_cases hd : d = [] <;> by_cases hv0 : v = 0 <;> by_cases ho0 : ow = 0 <;> cases t <;> simp_all <;> omega
  first | exact HF2.out | (repeat (first | exact HF2.out | refine Fp.setCell ?_ (.inr (Nat.le_refl _)) _))
set_option maxHeartbeats 8000000 in
theorem May_7 (o : Opn) (w : World) (hp : (split o.path).isSome = true) (hl : o.path.length ≤ 1000000) (hk : o.kind = 7) :
  Calls Tryz.prog 37 #[opV o] w fun e w' => e = .returned (.bool (may o)) ∧ Fp Non w w' := by
 obtain ⟨k, p, d, v, ow, t⟩ := o
 obtain rfl : k = 7 := hk
 unfold opV strV
 have hr := fun w => Right_g p w (sz_of hl (by omega))
 obtain ⟨m, hm⟩ : ∃ m, may ⟨7, p, d, v, ow, t⟩ = m := ⟨_, rfl⟩
 rw [hm]
 rw [show (split p).isSome = true from hp] at hr
 obtain ⟨bv, h1⟩ : ∃ r, decide ((-1 : Int) ≤ v ∧ v ≤ 281474976710656) = r := ⟨_, rfl⟩
 obtain ⟨bo, h2⟩ : ∃ r, decide ((0 : Int) ≤ ow ∧ ow ≤ 1099511627776) = r := ⟨_, rfl⟩
 obtain ⟨br, h3⟩ : ∃ r, (p == [47]) = r := ⟨_, rfl⟩
 obtain ⟨bl, h4⟩ : ∃ r, decide (d.length ≤ 256) = r := ⟨_, rfl⟩
 obtain ⟨bz, h5⟩ : ∃ r, (ow == 0) = r := ⟨_, rfl⟩
 have HV := Lib.hid (fun w => within_d v (-1) 281474976710656 w bv h1)
 have HO := Lib.hid (fun w => within_d ow 0 1099511627776 w bo h2)
 have HM := Lib.hid hm
 have HR := Lib.hid hr
 have HFI := Lib.hid fields_c
 have HBX := Lib.hid (fun w => heap_alloc_new w (.cells #[.int .i64 7, .string (B p), .string (B d), .int .i64 v, .int .i64 ow, .bool t] TO_))
 have HQ := Lib.hid (And.intro hp (And.intro h1 (And.intro h2 (And.intro h3 (And.intro h4 h5)))))
 clear hm hr h1 h2 hp hl h3 h4
 have hix := fields_at7
 go_enter Tryz.func37, Tryz.ntmps37
 go_wp2_with fail
 refine (HR.out _).mono ?_
 rintro e w1 ⟨rfl, g1⟩
 have hb1 := (Fp.of_below g1).heap (HBX.out w) id
 have HF1 := Lib.hid (((Fp.refl Non w).alloc _).then g1.fp)
 have HB1 := Lib.hid hb1
 clear g1 hb1
 go_wp2_with fail
 refine wp_region_held_drew (S := (fun w' => w'.cell? ⟨w.heap.size, 0, none⟩ = some ((.int .i64 7)) ∧ w'.cell? ⟨w.heap.size, 1, none⟩ = some (.string (B p)) ∧ w'.cell? ⟨w.heap.size, 2, none⟩ = some (.string (B d)) ∧ w'.cell? ⟨w.heap.size, 3, none⟩ = some (.int .i64 v) ∧ w'.cell? ⟨w.heap.size, 4, none⟩ = some (.int .i64 ow) ∧ w'.cell? ⟨w.heap.size, 5, none⟩ = some (.bool t))) (by kernel_rfl) ?_ (fun hH => ?_)
 ·exact box6 ((Fp.refl Non w1).drew.heap HB1.out id)
 refine tk 1 hH ?_
 refine tk 2 hH ?_
 refine rY 0 fun K hK => ?_
 go_simp
 go_at_call 79
 refine (HFI.out _).mono ?_
 rintro e w2 ⟨rfl, f2⟩
 have hb2 := f2.heap (k := w.heap.size) ((Fp.refl Non w1).drew.heap HB1.out id) id
 have HB2 := Lib.hid hb2
 have HS2 := Lib.hid (box6 hb2)
 have HF2 := Lib.hid (HF1.out.then (((Fp.refl Non w1).drew).then f2))
 clear f2 hb2
 go_wp2_with fail
 refine hK.out _ _ HS2.out (fun hH => ?_)
 clear hK K
 try simp only [zz]
 refine tk 3 hH ?_
 refine tk 4 hH ?_
 refine dn ?_
 have s0 := HS2.out.1; have s1 := HS2.out.2.1; have s2 := HS2.out.2.2.1; have s3 := HS2.out.2.2.2.1; have s4 := HS2.out.2.2.2.2.1; have s5 := HS2.out.2.2.2.2.2
 have fz : ∀ j, w2.frozen? ⟨w.heap.size, j, none⟩ = false := fun j => by have := HB2.out; simp [World.frozen?, this]
 have z0 := fz 0; have z1 := fz 1; have z2 := fz 2; have z3 := fz 3; have z4 := fz 4; have z5 := fz 5
 clear fz
 have heq := eq_op
 clear hix
 cases bo <;> cases bz
 all_goals
  go_wp2_with (first
   | (go_at_call_of 80 v; refine (HV.out _).mono ?_; rintro e w1 ⟨rfl, rfl⟩)
   | (go_at_call_of 80 ow; refine (HO.out _).mono ?_; rintro e w1 ⟨rfl, rfl⟩))
  all_goals
   go_ret
   refine ⟨ret_bool ?_, ?_⟩
   ·rw [← HM.out]; unfold may; obtain ⟨g0, g1, g2, g3, g4, g5⟩ := HQ.out; clear HV HO HM HR HFI HBX HF1 HB1 HB2 HS2 HF2; by_cases hd : d = [] <;> by_cases hv0 : v = 0 <;> by_cases ho0 : ow = 0 <;> cases t <;> simp_all <;> omega
   first | exact HF2.out | (repeat (first | exact HF2.out | refine Fp.setCell ?_ (.inr (Nat.le_refl _)) _))
theorem may_kind_false {o : Opn} (h : ¬ (1 ≤ o.kind ∧ o.kind ≤ 7)) : may o = false := by
 cases hm : may o with
 | false => rfl
 | true => have := may_kind hm; omega
theorem may_split_false {o : Opn} (h : (split o.path).isSome = false) : may o = false := by
 cases hm : may o with
 | false => rfl
 | true => rw [may_split hm] at h; cases h
set_option maxHeartbeats 2000000 in
theorem May_c (o : Opn) (w : World) (hl : o.path.length ≤ 1000000) :
  Calls Tryz.prog 37 #[opV o] w fun e w' => e = .returned (.bool (may o)) ∧ Fp Non w w' := by
 by_cases hk : 1 ≤ o.kind ∧ o.kind ≤ 7
 ·cases hs : (split o.path).isSome with
  | true =>
   rcases (show o.kind = 1 ∨ o.kind = 2 ∨ o.kind = 3 ∨ o.kind = 4 ∨ o.kind = 5 ∨ o.kind = 6 ∨ o.kind = 7 by omega) with k | k | k | k | k | k | k
   ·exact May_1 o w hs hl k
   ·exact May_2 o w hs hl k
   ·exact May_3 o w hs hl k
   ·exact May_4 o w hs hl k
   ·exact May_5 o w hs hl k
   ·exact May_6 o w hs hl k
   exact May_7 o w hs hl k
  | false =>
   rw [may_split_false hs]
   obtain ⟨k, p, d, v, ow, t⟩ := o
   unfold opV strV
   have hr := fun w => Right_g p w (sz_of hl (by omega))
   rw [show (split p).isSome = false from hs] at hr
   have HR := Lib.hid hr
   have q1 : (k < 1) = False := eq_false (by have := hk.1; simp at this; omega)
   have q2 : ((8 : Int) ≤ k) = False := eq_false (by have := hk.2; simp at this; omega)
   clear hr hs hl hk
   go_enter Tryz.func37, Tryz.ntmps37
   go_wp2_with fail
   refine (HR.out _).mono ?_
   rintro e w1 ⟨rfl, g1⟩
   have HF := Lib.hid (((Fp.refl Non w).alloc (.cells #[.int .i64 k, .string (B p), .string (B d), .int .i64 v, .int .i64 ow, .bool t] TO_)).then g1.fp)
   clear g1
   go_wp2
   go_ret
   exact ⟨rfl, HF.out⟩
 rw [may_kind_false hk]
 obtain ⟨k, p, d, v, ow, t⟩ := o
 unfold opV strV
 by_cases h1 : k < 1
 ·have q1 : (k < 1) = True := eq_true h1
  clear hk hl h1
  go_enter Tryz.func37, Tryz.ntmps37
  go_wp2
  go_ret
  exact ⟨rfl, (Fp.refl Non w).alloc _⟩
 have q1 : (k < 1) = False := eq_false h1
 have q2 : ((8 : Int) ≤ k) = True := eq_true (by have : ¬ (1 ≤ k ∧ k ≤ 7) := hk; omega)
 clear hk hl h1
 go_enter Tryz.func37, Tryz.ntmps37
 go_wp2
 go_ret
 exact ⟨rfl, (Fp.refl Non w).alloc _⟩
end Go.Proofs.YtphoglepiegeiaaGreatDoor
