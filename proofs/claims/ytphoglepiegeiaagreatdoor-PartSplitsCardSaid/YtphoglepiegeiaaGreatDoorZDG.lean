/- A text of this proof. -/
import Derived.Test.YtphoglepiegeiaaGreatDoorZDA
import Derived.Test.YtphoglepiegeiaaGreatDoorZDC
import Derived.Test.YtphoglepiegeiaaGreatDoorZDD
import Derived.Test.YtphoglepiegeiaaGreatDoorZDE
import Derived.Test.YtphoglepiegeiaaGreatDoorZDF
set_option linter.unusedSimpArgs false
set_option linter.unusedVariables false
namespace Go.Proofs.YtphoglepiegeiaaGreatDoor
set_option maxRecDepth 20000
open Go.RowKit Pm
abbrev TP : TypeId := 27
def ptC (x : Pt) : List Value := [.int .i64 x.kind, strV x.dir, strV x.path, strV x.data, .int .i64 x.ver, .int .i64 x.own, .bool x.turns]
def ptV (x : Pt) : Value := .agg #[.int .i64 x.kind, strV x.dir, strV x.path, strV x.data, .int .i64 x.ver, .int .i64 x.own, .bool x.turns]
theorem boxP7 {w : World} {b : Nat} {T : TypeId} {c0 c1 c2 c3 c4 c5 c6 : Value} (h : w.heap[b]? = some (.cells #[c0, c1, c2, c3, c4, c5, c6] T (0, 0))) :
  w.cell? ⟨b, 0, none⟩ = some c0 ∧ w.cell? ⟨b, 1, none⟩ = some c1 ∧ w.cell? ⟨b, 2, none⟩ = some c2 ∧ w.cell? ⟨b, 3, none⟩ = some c3 ∧ w.cell? ⟨b, 4, none⟩ = some c4 ∧ w.cell? ⟨b, 5, none⟩ = some c5 ∧ w.cell? ⟨b, 6, none⟩ = some c6 :=
 ⟨by rw [cell_of_row _ _ _ _ _ _ h]; rfl, by rw [cell_of_row _ _ _ _ _ _ h]; rfl, by rw [cell_of_row _ _ _ _ _ _ h]; rfl, by rw [cell_of_row _ _ _ _ _ _ h]; rfl, by rw [cell_of_row _ _ _ _ _ _ h]; rfl, by rw [cell_of_row _ _ _ _ _ _ h]; rfl, by rw [cell_of_row _ _ _ _ _ _ h]; rfl⟩
theorem boxP3 {w : World} {b : Nat} {T : TypeId} {c0 c1 c2 c3 c4 c5 c6 : Value} (h : w.heap[b]? = some (.cells #[c0, c1, c2, c3, c4, c5, c6] T (0, 0))) :
  w.cell? ⟨b, 0, none⟩ = some c0 ∧ w.cell? ⟨b, 1, none⟩ = some c1 ∧ w.cell? ⟨b, 2, none⟩ = some c2 := ⟨(boxP7 h).1, (boxP7 h).2.1, (boxP7 h).2.2.1⟩
set_option maxHeartbeats 8000000 in
theorem mayP_c (x : Pt) (w : World) (hl : x.path.length ≤ 1000000) :
  Calls Tryz.prog 21 #[ptV x] w fun e w' => e = .returned (.bool (mayP x)) ∧ Fp Non w w' := by
 have hri := fun w => Right_g x.path w (sz_of hl (by omega))
 have hke := fun w => keptAt_c x.kind x.path w hl
 obtain ⟨k, d, p, da, v, o, t⟩ := x
 obtain ⟨sp, hsp⟩ : ∃ b, (split p).isSome = b := ⟨_, rfl⟩
 obtain ⟨kp, hkp⟩ : ∃ b, keptAt k p = b := ⟨_, rfl⟩
 simp only at hri hke
 rw [hsp] at hri
 rw [hkp] at hke
 obtain ⟨b1, h1⟩ : ∃ r, decide ((-1 : Int) ≤ v ∧ v ≤ 281474976710656) = r := ⟨_, rfl⟩
 obtain ⟨b3, h3⟩ : ∃ r, decide ((0 : Int) ≤ o ∧ o ≤ 1099511627776) = r := ⟨_, rfl⟩
 obtain ⟨n, hn⟩ : ∃ n, n = da.length := ⟨_, rfl⟩
 have W1 := Lib.hid (fun w => withinP_d v (-1) 281474976710656 w b1 h1)
 have W3 := Lib.hid (fun w => withinP_d o 0 1099511627776 w b3 h3)
 obtain ⟨r, hr⟩ : ∃ r, mayP ⟨k, d, p, da, v, o, t⟩ = r := ⟨_, rfl⟩
 have key : r = (decide (1 ≤ k) && decide (k ≤ 10) && sp && decide (d = kp) && !(decide (k = 2) && decide (p = [47])) && decide (n ≤ 256) && b1 && b3) := by
  rw [← hr, ← hsp, ← h1, ← h3, hn, ← hkp]
  by_cases a1 : p = [47] <;> by_cases a2 : k = 2 <;> (rw [Bool.eq_iff_iff, mayP_iff]; simp [a1, a2, and_assoc])
 have HR := Lib.hid hri
 have HKE := Lib.hid hke
 have HFin := Lib.hid (show ∀ c : Bool, (decide (1 ≤ k) && decide (k ≤ 10) && sp && decide (d = kp) && !(decide (k = 2) && decide (p = [47])) && decide (n ≤ 256) && b1 && b3) = c → r = c from fun c h => by rw [key, h])
 rw [hr]
 have hf0 := fp_alloc w (.cells #[.int .i64 k, .string (B d), .string (B p), .string (B da), .int .i64 v, .int .i64 o, .bool t] TP)
 have hb0 := heap_alloc_new w (.cells #[.int .i64 k, .string (B d), .string (B p), .string (B da), .int .i64 v, .int .i64 o, .bool t] TP)
 have HF0 := Lib.hid (And.intro hf0 hb0)
 unfold ptV strV
 clear hri hke hsp hkp h1 h3 hr key hl hf0 hb0
 by_cases ha : 1 ≤ k
 ·have q1 : (k < (1 : Int)) = False := eq_false (by omega)
  by_cases hb : k ≤ 10
  ·have q2 : ((11 : Int) ≤ k) = False := eq_false (by omega)
   cases sp with
   | false =>
    have Q := Lib.hid (And.intro ha (hb))
    clear ha hb hn
    go_enter Tryz.func21, Tryz.ntmps21
    go_wp2_with fail
    refine wp_region_held_drew (S := (fun w' => w'.cell? ⟨w.heap.size, 0, none⟩ = some (.int .i64 k) ∧ w'.cell? ⟨w.heap.size, 1, none⟩ = some (.string (B d)) ∧ w'.cell? ⟨w.heap.size, 2, none⟩ = some (.string (B p)))) (by kernel_rfl) ?_ (fun hH => ?_)
    ·exact boxP3 ((Fp.refl Non _).drew.heap HF0.out.2 id)
    refine tk 0 hH ?_
    refine tk 1 hH ?_
    refine tk 2 hH ?_
    refine tk 3 hH ?_
    refine tk 4 hH ?_
    refine tk 5 hH ?_
    refine tk 6 hH ?_
    refine tk 7 hH ?_
    refine tk 8 hH ?_
    refine tk 9 hH ?_
    refine tk 10 hH ?_
    refine rY 11 fun K hK => ?_
    go_simp
    go_at_call 64
    refine (HR.out _).mono ?_
    rintro e w1 ⟨rfl, g1⟩
    have hb1 := g1.fp.heap (k := w.heap.size) ((Fp.refl Non _).drew.heap HF0.out.2 id) id
    have HB1 := Lib.hid hb1
    have HS1 := Lib.hid (boxP3 hb1)
    have F1 := Lib.hid (HF0.out.1.then (((Fp.refl Non _).drew).then g1.fp))
    clear g1 hb1
    go_wp2_with fail
    refine hK.out _ _ HS1.out (fun hH => ?_)
    clear hK K
    try simp only [zz]
    refine tk 12 hH ?_
    refine tk 13 hH ?_
    refine tk 14 hH ?_
    refine sk 15 hH ?_
    refine sk 16 hH ?_
    refine sk 17 hH ?_
    refine sk 18 hH ?_
    refine sk 19 hH ?_
    refine sk 20 hH ?_
    refine sk 21 hH ?_
    refine sk 22 hH ?_
    refine tk 23 hH ?_
    refine dn ?_
    go_wp2
    go_ret
    exact ⟨ret_bool (HFin.out _ (by simp [Q.out])).symm, F1.out⟩
   | true => ?_
   by_cases hd0 : d = kp
   ·have q3 : (d != kp) = false := by simpa using hd0
    have q3b : (d == kp) = true := by simpa using hd0
    have q3c : (d = kp) = True := eq_true hd0
    by_cases h2 : k = 2
    ·have q4 : (k == 2) = true := by simpa using h2
     have q4b : (k = 2) = True := eq_true h2
     by_cases hp : p = [47]
     ·have q7 : (p == [47]) = true := by simpa using hp
      have q7b : (p = [47]) = True := eq_true hp
      have Q := Lib.hid (And.intro ha (And.intro hb (And.intro hd0 (And.intro h2 (hp)))))
      clear ha hb hd0 h2 hp hn
      go_enter Tryz.func21, Tryz.ntmps21
      go_wp2_with fail
      refine wp_region_held_drew (S := (fun w' => w'.cell? ⟨w.heap.size, 0, none⟩ = some (.int .i64 k) ∧ w'.cell? ⟨w.heap.size, 1, none⟩ = some (.string (B d)) ∧ w'.cell? ⟨w.heap.size, 2, none⟩ = some (.string (B p)))) (by kernel_rfl) ?_ (fun hH => ?_)
      ·exact boxP3 ((Fp.refl Non _).drew.heap HF0.out.2 id)
      refine tk 0 hH ?_
      refine tk 1 hH ?_
      refine tk 2 hH ?_
      refine tk 3 hH ?_
      refine tk 4 hH ?_
      refine tk 5 hH ?_
      refine tk 6 hH ?_
      refine tk 7 hH ?_
      refine tk 8 hH ?_
      refine tk 9 hH ?_
      refine tk 10 hH ?_
      refine rY 11 fun K hK => ?_
      go_simp
      go_at_call 64
      refine (HR.out _).mono ?_
      rintro e w1 ⟨rfl, g1⟩
      have hb1 := g1.fp.heap (k := w.heap.size) ((Fp.refl Non _).drew.heap HF0.out.2 id) id
      have HB1 := Lib.hid hb1
      have HS1 := Lib.hid (boxP3 hb1)
      have F1 := Lib.hid (HF0.out.1.then (((Fp.refl Non _).drew).then g1.fp))
      clear g1 hb1
      go_wp2_with fail
      refine hK.out _ _ HS1.out (fun hH => ?_)
      clear hK K
      try simp only [zz]
      refine tk 12 hH ?_
      refine tk 13 hH ?_
      refine tk 14 hH ?_
      refine tk 15 hH ?_
      refine tk 16 hH ?_
      refine tk 17 hH ?_
      refine tk 18 hH ?_
      refine tk 19 hH ?_
      refine tk 20 hH ?_
      refine rY 21 fun K hK => ?_
      go_simp
      go_at_call 68
      refine (HKE.out _).mono ?_
      rintro e w2 ⟨rfl, g2⟩
      have hb2 := g2.heap (k := w.heap.size) HB1.out id
      have HB2 := Lib.hid hb2
      have HS2 := Lib.hid (boxP3 hb2)
      have F := Lib.hid (F1.out.then g2)
      clear g2 hb2
      go_wp2_with fail
      refine hK.out _ _ HS2.out (fun hH => ?_)
      clear hK K
      try simp only [zz]
      refine tk 22 hH ?_
      refine tk 23 hH ?_
      refine dn ?_
      obtain ⟨c0, c1, c2, c3, c4, c5, c6⟩ := boxP7 HB2.out
      go_wp2
      go_ret
      exact ⟨ret_bool (HFin.out _ (by simp [Q.out])).symm, F.out⟩
     have q7 : (p == [47]) = false := by simpa using hp
     have q7b : (p = [47]) = False := eq_false hp
     by_cases hd : n ≤ 256
     ·have q5 : ((256 : Int) < (da.length : Int)) = False := eq_false (by omega)
      have q6 : ((da.length : Int) ≤ (256 : Int)) = True := eq_true (by omega)
      have Q := Lib.hid (And.intro ha (And.intro hb (And.intro hd0 (And.intro h2 (And.intro hp (hd))))))
      clear ha hb hd0 h2 hp hd hn
      go_enter Tryz.func21, Tryz.ntmps21
      go_wp2_with fail
      refine wp_region_held_drew (S := (fun w' => w'.cell? ⟨w.heap.size, 0, none⟩ = some (.int .i64 k) ∧ w'.cell? ⟨w.heap.size, 1, none⟩ = some (.string (B d)) ∧ w'.cell? ⟨w.heap.size, 2, none⟩ = some (.string (B p)))) (by kernel_rfl) ?_ (fun hH => ?_)
      ·exact boxP3 ((Fp.refl Non _).drew.heap HF0.out.2 id)
      refine tk 0 hH ?_
      refine tk 1 hH ?_
      refine tk 2 hH ?_
      refine tk 3 hH ?_
      refine tk 4 hH ?_
      refine tk 5 hH ?_
      refine tk 6 hH ?_
      refine tk 7 hH ?_
      refine tk 8 hH ?_
      refine tk 9 hH ?_
      refine tk 10 hH ?_
      refine rY 11 fun K hK => ?_
      go_simp
      go_at_call 64
      refine (HR.out _).mono ?_
      rintro e w1 ⟨rfl, g1⟩
      have hb1 := g1.fp.heap (k := w.heap.size) ((Fp.refl Non _).drew.heap HF0.out.2 id) id
      have HB1 := Lib.hid hb1
      have HS1 := Lib.hid (boxP3 hb1)
      have F1 := Lib.hid (HF0.out.1.then (((Fp.refl Non _).drew).then g1.fp))
      clear g1 hb1
      go_wp2_with fail
      refine hK.out _ _ HS1.out (fun hH => ?_)
      clear hK K
      try simp only [zz]
      refine tk 12 hH ?_
      refine tk 13 hH ?_
      refine tk 14 hH ?_
      refine tk 15 hH ?_
      refine tk 16 hH ?_
      refine tk 17 hH ?_
      refine tk 18 hH ?_
      refine tk 19 hH ?_
      refine tk 20 hH ?_
      refine rY 21 fun K hK => ?_
      go_simp
      go_at_call 68
      refine (HKE.out _).mono ?_
      rintro e w2 ⟨rfl, g2⟩
      have hb2 := g2.heap (k := w.heap.size) HB1.out id
      have HB2 := Lib.hid hb2
      have HS2 := Lib.hid (boxP3 hb2)
      have F := Lib.hid (F1.out.then g2)
      clear g2 hb2
      go_wp2_with fail
      refine hK.out _ _ HS2.out (fun hH => ?_)
      clear hK K
      try simp only [zz]
      refine tk 22 hH ?_
      refine tk 23 hH ?_
      refine dn ?_
      obtain ⟨c0, c1, c2, c3, c4, c5, c6⟩ := boxP7 HB2.out
      cases b1 <;> cases b3
      all_goals
       go_wp2_with (first
        | (go_at_call_of 65 v; refine (W1.out _).mono ?_; rintro e w3 ⟨rfl, rfl⟩)
        | (go_at_call_of 65 o; refine (W3.out _).mono ?_; rintro e w3 ⟨rfl, rfl⟩))
       go_ret
       exact ⟨ret_bool (HFin.out _ (by simp [Q.out])).symm, F.out⟩
     have q5 : ((256 : Int) < (da.length : Int)) = True := eq_true (by omega)
     have q6 : ((da.length : Int) ≤ (256 : Int)) = False := eq_false (by omega)
     have Q := Lib.hid (And.intro ha (And.intro hb (And.intro hd0 (And.intro h2 (And.intro hp (hd))))))
     clear ha hb hd0 h2 hp hd hn
     go_enter Tryz.func21, Tryz.ntmps21
     go_wp2_with fail
     refine wp_region_held_drew (S := (fun w' => w'.cell? ⟨w.heap.size, 0, none⟩ = some (.int .i64 k) ∧ w'.cell? ⟨w.heap.size, 1, none⟩ = some (.string (B d)) ∧ w'.cell? ⟨w.heap.size, 2, none⟩ = some (.string (B p)))) (by kernel_rfl) ?_ (fun hH => ?_)
     ·exact boxP3 ((Fp.refl Non _).drew.heap HF0.out.2 id)
     refine tk 0 hH ?_
     refine tk 1 hH ?_
     refine tk 2 hH ?_
     refine tk 3 hH ?_
     refine tk 4 hH ?_
     refine tk 5 hH ?_
     refine tk 6 hH ?_
     refine tk 7 hH ?_
     refine tk 8 hH ?_
     refine tk 9 hH ?_
     refine tk 10 hH ?_
     refine rY 11 fun K hK => ?_
     go_simp
     go_at_call 64
     refine (HR.out _).mono ?_
     rintro e w1 ⟨rfl, g1⟩
     have hb1 := g1.fp.heap (k := w.heap.size) ((Fp.refl Non _).drew.heap HF0.out.2 id) id
     have HB1 := Lib.hid hb1
     have HS1 := Lib.hid (boxP3 hb1)
     have F1 := Lib.hid (HF0.out.1.then (((Fp.refl Non _).drew).then g1.fp))
     clear g1 hb1
     go_wp2_with fail
     refine hK.out _ _ HS1.out (fun hH => ?_)
     clear hK K
     try simp only [zz]
     refine tk 12 hH ?_
     refine tk 13 hH ?_
     refine tk 14 hH ?_
     refine tk 15 hH ?_
     refine tk 16 hH ?_
     refine tk 17 hH ?_
     refine tk 18 hH ?_
     refine tk 19 hH ?_
     refine tk 20 hH ?_
     refine rY 21 fun K hK => ?_
     go_simp
     go_at_call 68
     refine (HKE.out _).mono ?_
     rintro e w2 ⟨rfl, g2⟩
     have hb2 := g2.heap (k := w.heap.size) HB1.out id
     have HB2 := Lib.hid hb2
     have HS2 := Lib.hid (boxP3 hb2)
     have F := Lib.hid (F1.out.then g2)
     clear g2 hb2
     go_wp2_with fail
     refine hK.out _ _ HS2.out (fun hH => ?_)
     clear hK K
     try simp only [zz]
     refine tk 22 hH ?_
     refine tk 23 hH ?_
     refine dn ?_
     obtain ⟨c0, c1, c2, c3, c4, c5, c6⟩ := boxP7 HB2.out
     go_wp2
     go_ret
     exact ⟨ret_bool (HFin.out _ (by simp [Q.out])).symm, F.out⟩
    have q4 : (k == 2) = false := by simpa using h2
    have q4b : (k = 2) = False := eq_false h2
    by_cases hd : n ≤ 256
    ·have q5 : ((256 : Int) < (da.length : Int)) = False := eq_false (by omega)
     have q6 : ((da.length : Int) ≤ (256 : Int)) = True := eq_true (by omega)
     have Q := Lib.hid (And.intro ha (And.intro hb (And.intro hd0 (And.intro h2 (hd)))))
     clear ha hb hd0 h2 hd hn
     go_enter Tryz.func21, Tryz.ntmps21
     go_wp2_with fail
     refine wp_region_held_drew (S := (fun w' => w'.cell? ⟨w.heap.size, 0, none⟩ = some (.int .i64 k) ∧ w'.cell? ⟨w.heap.size, 1, none⟩ = some (.string (B d)) ∧ w'.cell? ⟨w.heap.size, 2, none⟩ = some (.string (B p)))) (by kernel_rfl) ?_ (fun hH => ?_)
     ·exact boxP3 ((Fp.refl Non _).drew.heap HF0.out.2 id)
     refine tk 0 hH ?_
     refine tk 1 hH ?_
     refine tk 2 hH ?_
     refine tk 3 hH ?_
     refine tk 4 hH ?_
     refine tk 5 hH ?_
     refine tk 6 hH ?_
     refine tk 7 hH ?_
     refine tk 8 hH ?_
     refine tk 9 hH ?_
     refine tk 10 hH ?_
     refine rY 11 fun K hK => ?_
     go_simp
     go_at_call 64
     refine (HR.out _).mono ?_
     rintro e w1 ⟨rfl, g1⟩
     have hb1 := g1.fp.heap (k := w.heap.size) ((Fp.refl Non _).drew.heap HF0.out.2 id) id
     have HB1 := Lib.hid hb1
     have HS1 := Lib.hid (boxP3 hb1)
     have F1 := Lib.hid (HF0.out.1.then (((Fp.refl Non _).drew).then g1.fp))
     clear g1 hb1
     go_wp2_with fail
     refine hK.out _ _ HS1.out (fun hH => ?_)
     clear hK K
     try simp only [zz]
     refine tk 12 hH ?_
     refine tk 13 hH ?_
     refine tk 14 hH ?_
     refine tk 15 hH ?_
     refine tk 16 hH ?_
     refine tk 17 hH ?_
     refine tk 18 hH ?_
     refine tk 19 hH ?_
     refine tk 20 hH ?_
     refine rY 21 fun K hK => ?_
     go_simp
     go_at_call 68
     refine (HKE.out _).mono ?_
     rintro e w2 ⟨rfl, g2⟩
     have hb2 := g2.heap (k := w.heap.size) HB1.out id
     have HB2 := Lib.hid hb2
     have HS2 := Lib.hid (boxP3 hb2)
     have F := Lib.hid (F1.out.then g2)
     clear g2 hb2
     go_wp2_with fail
     refine hK.out _ _ HS2.out (fun hH => ?_)
     clear hK K
     try simp only [zz]
     refine tk 22 hH ?_
     refine tk 23 hH ?_
     refine dn ?_
     obtain ⟨c0, c1, c2, c3, c4, c5, c6⟩ := boxP7 HB2.out
     cases b1 <;> cases b3
     all_goals
      go_wp2_with (first
       | (go_at_call_of 65 v; refine (W1.out _).mono ?_; rintro e w3 ⟨rfl, rfl⟩)
       | (go_at_call_of 65 o; refine (W3.out _).mono ?_; rintro e w3 ⟨rfl, rfl⟩))
      go_ret
      exact ⟨ret_bool (HFin.out _ (by simp [Q.out])).symm, F.out⟩
    have q5 : ((256 : Int) < (da.length : Int)) = True := eq_true (by omega)
    have q6 : ((da.length : Int) ≤ (256 : Int)) = False := eq_false (by omega)
    have Q := Lib.hid (And.intro ha (And.intro hb (And.intro hd0 (And.intro h2 (hd)))))
    clear ha hb hd0 h2 hd hn
    go_enter Tryz.func21, Tryz.ntmps21
    go_wp2_with fail
    refine wp_region_held_drew (S := (fun w' => w'.cell? ⟨w.heap.size, 0, none⟩ = some (.int .i64 k) ∧ w'.cell? ⟨w.heap.size, 1, none⟩ = some (.string (B d)) ∧ w'.cell? ⟨w.heap.size, 2, none⟩ = some (.string (B p)))) (by kernel_rfl) ?_ (fun hH => ?_)
    ·exact boxP3 ((Fp.refl Non _).drew.heap HF0.out.2 id)
    refine tk 0 hH ?_
    refine tk 1 hH ?_
    refine tk 2 hH ?_
    refine tk 3 hH ?_
    refine tk 4 hH ?_
    refine tk 5 hH ?_
    refine tk 6 hH ?_
    refine tk 7 hH ?_
    refine tk 8 hH ?_
    refine tk 9 hH ?_
    refine tk 10 hH ?_
    refine rY 11 fun K hK => ?_
    go_simp
    go_at_call 64
    refine (HR.out _).mono ?_
    rintro e w1 ⟨rfl, g1⟩
    have hb1 := g1.fp.heap (k := w.heap.size) ((Fp.refl Non _).drew.heap HF0.out.2 id) id
    have HB1 := Lib.hid hb1
    have HS1 := Lib.hid (boxP3 hb1)
    have F1 := Lib.hid (HF0.out.1.then (((Fp.refl Non _).drew).then g1.fp))
    clear g1 hb1
    go_wp2_with fail
    refine hK.out _ _ HS1.out (fun hH => ?_)
    clear hK K
    try simp only [zz]
    refine tk 12 hH ?_
    refine tk 13 hH ?_
    refine tk 14 hH ?_
    refine tk 15 hH ?_
    refine tk 16 hH ?_
    refine tk 17 hH ?_
    refine tk 18 hH ?_
    refine tk 19 hH ?_
    refine tk 20 hH ?_
    refine rY 21 fun K hK => ?_
    go_simp
    go_at_call 68
    refine (HKE.out _).mono ?_
    rintro e w2 ⟨rfl, g2⟩
    have hb2 := g2.heap (k := w.heap.size) HB1.out id
    have HB2 := Lib.hid hb2
    have HS2 := Lib.hid (boxP3 hb2)
    have F := Lib.hid (F1.out.then g2)
    clear g2 hb2
    go_wp2_with fail
    refine hK.out _ _ HS2.out (fun hH => ?_)
    clear hK K
    try simp only [zz]
    refine tk 22 hH ?_
    refine tk 23 hH ?_
    refine dn ?_
    obtain ⟨c0, c1, c2, c3, c4, c5, c6⟩ := boxP7 HB2.out
    go_wp2
    go_ret
    exact ⟨ret_bool (HFin.out _ (by simp [Q.out])).symm, F.out⟩
   have q3 : (d != kp) = true := by simpa using hd0
   have q3b : (d == kp) = false := by simpa using hd0
   have q3c : (d = kp) = False := eq_false hd0
   have Q := Lib.hid (And.intro ha (And.intro hb (hd0)))
   clear ha hb hd0 hn
   go_enter Tryz.func21, Tryz.ntmps21
   go_wp2_with fail
   refine wp_region_held_drew (S := (fun w' => w'.cell? ⟨w.heap.size, 0, none⟩ = some (.int .i64 k) ∧ w'.cell? ⟨w.heap.size, 1, none⟩ = some (.string (B d)) ∧ w'.cell? ⟨w.heap.size, 2, none⟩ = some (.string (B p)))) (by kernel_rfl) ?_ (fun hH => ?_)
   ·exact boxP3 ((Fp.refl Non _).drew.heap HF0.out.2 id)
   refine tk 0 hH ?_
   refine tk 1 hH ?_
   refine tk 2 hH ?_
   refine tk 3 hH ?_
   refine tk 4 hH ?_
   refine tk 5 hH ?_
   refine tk 6 hH ?_
   refine tk 7 hH ?_
   refine tk 8 hH ?_
   refine tk 9 hH ?_
   refine tk 10 hH ?_
   refine rY 11 fun K hK => ?_
   go_simp
   go_at_call 64
   refine (HR.out _).mono ?_
   rintro e w1 ⟨rfl, g1⟩
   have hb1 := g1.fp.heap (k := w.heap.size) ((Fp.refl Non _).drew.heap HF0.out.2 id) id
   have HB1 := Lib.hid hb1
   have HS1 := Lib.hid (boxP3 hb1)
   have F1 := Lib.hid (HF0.out.1.then (((Fp.refl Non _).drew).then g1.fp))
   clear g1 hb1
   go_wp2_with fail
   refine hK.out _ _ HS1.out (fun hH => ?_)
   clear hK K
   try simp only [zz]
   refine tk 12 hH ?_
   refine tk 13 hH ?_
   refine tk 14 hH ?_
   refine tk 15 hH ?_
   refine tk 16 hH ?_
   refine tk 17 hH ?_
   refine tk 18 hH ?_
   refine tk 19 hH ?_
   refine tk 20 hH ?_
   refine rY 21 fun K hK => ?_
   go_simp
   go_at_call 68
   refine (HKE.out _).mono ?_
   rintro e w2 ⟨rfl, g2⟩
   have hb2 := g2.heap (k := w.heap.size) HB1.out id
   have HB2 := Lib.hid hb2
   have HS2 := Lib.hid (boxP3 hb2)
   have F := Lib.hid (F1.out.then g2)
   clear g2 hb2
   go_wp2_with fail
   refine hK.out _ _ HS2.out (fun hH => ?_)
   clear hK K
   try simp only [zz]
   refine tk 22 hH ?_
   refine tk 23 hH ?_
   refine dn ?_
   obtain ⟨c0, c1, c2, c3, c4, c5, c6⟩ := boxP7 HB2.out
   go_wp2
   go_ret
   exact ⟨ret_bool (HFin.out _ (by simp [Q.out])).symm, F.out⟩
  have q2 : ((11 : Int) ≤ k) = True := eq_true (by omega)
  have Q := Lib.hid (And.intro ha (hb))
  clear ha hb hn
  go_enter Tryz.func21, Tryz.ntmps21
  go_wp2_with fail
  refine wp_region_held_drew (S := (fun w' => w'.cell? ⟨w.heap.size, 0, none⟩ = some (.int .i64 k) ∧ w'.cell? ⟨w.heap.size, 1, none⟩ = some (.string (B d)) ∧ w'.cell? ⟨w.heap.size, 2, none⟩ = some (.string (B p)))) (by kernel_rfl) ?_ (fun hH => ?_)
  ·exact boxP3 ((Fp.refl Non _).drew.heap HF0.out.2 id)
  refine tk 0 hH ?_
  refine tk 1 hH ?_
  refine tk 2 hH ?_
  refine tk 3 hH ?_
  refine tk 4 hH ?_
  refine tk 5 hH ?_
  refine tk 6 hH ?_
  refine tk 7 hH ?_
  refine tk 8 hH ?_
  refine sk 9 hH ?_
  refine sk 10 hH ?_
  refine sk 11 hH ?_
  refine sk 12 hH ?_
  refine tk 13 hH ?_
  refine tk 14 hH ?_
  refine sk 15 hH ?_
  refine sk 16 hH ?_
  refine sk 17 hH ?_
  refine sk 18 hH ?_
  refine sk 19 hH ?_
  refine sk 20 hH ?_
  refine sk 21 hH ?_
  refine sk 22 hH ?_
  refine tk 23 hH ?_
  refine dn ?_
  go_wp2
  go_ret
  exact ⟨ret_bool (HFin.out _ (by have h := Q.out; have e : (decide (1 ≤ k) && decide (k ≤ 10)) = false := (by rw [Bool.and_eq_false_iff, decide_eq_false_iff_not, decide_eq_false_iff_not]; omega); rw [e]; rfl)).symm, HF0.out.1.then (Fp.refl Non _).drew⟩
 have q1 : (k < (1 : Int)) = True := eq_true (by omega)
 have Q := Lib.hid (ha)
 clear ha hn
 go_enter Tryz.func21, Tryz.ntmps21
 go_wp2_with fail
 refine wp_region_held_drew (S := (fun w' => w'.cell? ⟨w.heap.size, 0, none⟩ = some (.int .i64 k) ∧ w'.cell? ⟨w.heap.size, 1, none⟩ = some (.string (B d)) ∧ w'.cell? ⟨w.heap.size, 2, none⟩ = some (.string (B p)))) (by kernel_rfl) ?_ (fun hH => ?_)
 ·exact boxP3 ((Fp.refl Non _).drew.heap HF0.out.2 id)
 refine tk 0 hH ?_
 refine tk 1 hH ?_
 refine tk 2 hH ?_
 refine tk 3 hH ?_
 refine sk 4 hH ?_
 refine sk 5 hH ?_
 refine sk 6 hH ?_
 refine tk 7 hH ?_
 refine tk 8 hH ?_
 refine sk 9 hH ?_
 refine sk 10 hH ?_
 refine sk 11 hH ?_
 refine sk 12 hH ?_
 refine tk 13 hH ?_
 refine tk 14 hH ?_
 refine sk 15 hH ?_
 refine sk 16 hH ?_
 refine sk 17 hH ?_
 refine sk 18 hH ?_
 refine sk 19 hH ?_
 refine sk 20 hH ?_
 refine sk 21 hH ?_
 refine sk 22 hH ?_
 refine tk 23 hH ?_
 refine dn ?_
 go_wp2
 go_ret
 exact ⟨ret_bool (HFin.out _ (by have h := Q.out; have e : (decide (1 ≤ k) && decide (k ≤ 10)) = false := (by rw [Bool.and_eq_false_iff, decide_eq_false_iff_not, decide_eq_false_iff_not]; omega); rw [e]; rfl)).symm, HF0.out.1.then (Fp.refl Non _).drew⟩
set_option maxHeartbeats 1000000 in
theorem GreatOp_c (o : Opn) (w : World) :
  Calls Tryz.prog 25 #[opV o] w fun e w' => ∃ c, e = .returned (.bool c) ∧ (c = false → o.path.length ≤ 3000 ∧ o.data.length ≤ 3000) ∧ Fp Non w w' := by
 obtain ⟨kk, p, d, v, ow, t⟩ := o
 unfold opV strV
 have lenB : ∀ l : Bs, (B l).data.size = l.length := fun l => by unfold B; simp
 by_cases h1 : 3000 < p.length
 ·have q1 : (3000 < p.length) = True := eq_true h1
  have q2 : ((3000 : Int) < (p.length : Int)) = True := eq_true (by omega)
  clear h1
  go_enter Tryz.func25, Tryz.ntmps25
  go_wp2
  go_ret
  exact ⟨_, rfl, fun h => by simp at h, (Fp.refl Non w).alloc _⟩
 have q1 : (3000 < p.length) = False := eq_false h1
 have q2 : ((3000 : Int) < (p.length : Int)) = False := eq_false (by omega)
 by_cases h2 : 3000 < d.length
 ·have q3 : (3000 < d.length) = True := eq_true h2
  have q4 : ((3000 : Int) < (d.length : Int)) = True := eq_true (by omega)
  clear h1 h2
  go_enter Tryz.func25, Tryz.ntmps25
  go_wp2
  go_ret
  exact ⟨_, rfl, fun h => by simp at h, (Fp.refl Non w).alloc _⟩
 have q3 : (3000 < d.length) = False := eq_false h2
 have q4 : ((3000 : Int) < (d.length : Int)) = False := eq_false (by omega)
 have HL := Lib.hid (show p.length ≤ 3000 ∧ d.length ≤ 3000 by omega)
 clear h1 h2
 go_enter Tryz.func25, Tryz.ntmps25
 go_wp2
 go_ret
 exact ⟨_, rfl, fun _ => HL.out, (Fp.refl Non w).alloc _⟩
theorem box5 {w : World} {b : Nat} {T : TypeId} {c0 c1 c2 c3 c4 : Value} (h : w.heap[b]? = some (.cells #[c0, c1, c2, c3, c4] T (0, 0))) :
  w.cell? ⟨b, 0, none⟩ = some c0 ∧ w.cell? ⟨b, 1, none⟩ = some c1 ∧ w.cell? ⟨b, 2, none⟩ = some c2 ∧ w.cell? ⟨b, 3, none⟩ = some c3 ∧ w.cell? ⟨b, 4, none⟩ = some c4 :=
 ⟨by rw [cell_of_row _ _ _ _ _ _ h]; rfl, by rw [cell_of_row _ _ _ _ _ _ h]; rfl, by rw [cell_of_row _ _ _ _ _ _ h]; rfl, by rw [cell_of_row _ _ _ _ _ _ h]; rfl, by rw [cell_of_row _ _ _ _ _ _ h]; rfl⟩
structure RfM (l : List Nd) (p : Bs) (w : World) (k : Nat) (wr : World) : Prop where
 row : wr.heap[w.heap.size]? = some (.cells #[.string ⟨#[]⟩, .string ⟨#[]⟩, .int .i64 0, .int .i64 0, .int .i64 0] TN (0, 0))
 fp : Fp Non w wr
 no : ∀ j (hj : j < l.length), j < k → l[j].path ≠ p
theorem RfM.next {l : List Nd} {p : Bs} {w wr : World} {k : Nat} (h : RfM l p w k wr) (hk : k < l.length) (hp : l[k].path ≠ p) : RfM l p w (k + 1) wr :=
 ⟨h.row, h.fp, fun j hj hjk => by
  rcases Nat.lt_or_eq_of_le (show j ≤ k by omega) with e | e
  ·exact h.no j hj e
  subst e; exact hp⟩
theorem RfM.found {l : List Nd} {p : Bs} {w wr : World} {k : Nat} (h : RfM l p w k wr) (hk : k < l.length) (hp : l[k].path = p) : find l p = some l[k] := by
 unfold find
 rw [List.find?_eq_some_iff_getElem]
 refine ⟨by simp [hp], k, hk, rfl, fun j hji => ?_⟩
 have := h.no j (by omega) hji
 simp [this]
theorem RfM.none {l : List Nd} {p : Bs} {w wr : World} {k : Nat} (h : RfM l p w k wr) (hk : k = l.length) : find l p = none := by
 rw [find_none]
 intro x hx
 obtain ⟨j, hj, rfl⟩ := List.getElem_of_mem hx
 exact h.no j hj (by omega)
set_option maxHeartbeats 2000000 in
theorem rFind_c (v : Value) (l : List Nd) (p : Bs) (w : World) (hv : Ns w v l) (hn : l.length ≤ 1000000) :
  Calls Tryz.prog 60 #[v, .string (B p)] w fun e w' => e = .returned (.tuple #[ndV ((find l p).getD zeroNd), .bool (find l p).isSome]) ∧ Fp Non w w' := by
 obtain ⟨ao, cap, rfl⟩ := hv.shape
 obtain ⟨n, hnn⟩ : ∃ n, n = l.length := ⟨_, rfl⟩
 have HX := Lib.hid (And.intro hnn hv)
 rw [← hnn]
 have hnb : n ≤ 1000000 := by omega
 have H0 : Hid (RfM l p w 0 (w.alloc (.cells #[.string ⟨#[]⟩, .string ⟨#[]⟩, .int .i64 0, .int .i64 0, .int .i64 0] TN))) := ⟨heap_alloc_new w _, (Fp.refl Non w).alloc _, fun j _ h => absurd h (Nat.not_lt_zero j)⟩
 clear hv hn hnn
 go_enter Tryz.func60, Tryz.ntmps60
 go_wp2_with fail
 go_loopw [6] (fun i wr => ∃ k : Nat, k ≤ n ∧ i = .int .i64 k ∧ Hid (RfM l p w k wr)) (fun i _ => n - (RowKit.intOf i).toNat)
 case atStart => exact ⟨0, Nat.zero_le _, rfl, H0⟩
 clear H0
 obtain ⟨k, hk, rfl, hR⟩ := hrel
 rename_i wr _
 have HB := Lib.hid hR.out.row
 have HF := Lib.hid hR.out.fp
 obtain ⟨r0, r1, r2, r3, r4⟩ := box5 hR.out.row
 have fz : ∀ j, wr.frozen? ⟨w.heap.size, j, none⟩ = false := fun j => by simp [World.frozen?, HB.out]
 have f0 := fz 0; have f1 := fz 1; have f2 := fz 2; have f3 := fz 3; have f4 := fz 4
 clear fz
 by_cases hlt : k < n
 ·have hkl : k < l.length := by rw [← HX.out.1]; exact hlt
  obtain ⟨g, o, cap', e, _, _, _, hcell⟩ := HX.out.2.at (by omega)
  injection e with e1 e2 e3
  subst e1 e3
  have hnd := (hcell k hkl).keep hR.out.fp id
  have q3 : ((k : Int) < (n : Int)) = True := eq_true (by omega)
  have q4 : (k < n) = True := eq_true hlt
  have hnx := fun h => hR.out.next hkl h
  have hfd := fun h => hR.out.found hkl h
  have HNX := Lib.hid hnx
  have HFD := Lib.hid hfd
  have HL := Lib.hid hlt
  clear hcell hnx hfd hlt
  generalize l[k] = x at *
  clear hkl
  have c0 := hnd.c0; have c1 := hnd.c1; have c2 := hnd.c2; have c3 := hnd.c3; have c4 := hnd.c4
  unfold strV at c0 c1
  clear hnd
  by_cases hp : x.path = p
  ·have HFN := Lib.hid (HFD.out hp)
   have q5 : (x.path == p) = true := beq_iff_eq.2 hp
   have q6 : (x.path = p) = True := eq_true hp
   clear hp
   go_wp2
   have hw9 := set5 HB.out (.string (B x.path)) (.string (B x.data)) (.int .i64 x.ver) (.int .i64 x.turn) (.int .i64 x.own)
   have hf9 := fp5 (S := Non) HF.out (b := w.heap.size) (.inr (Nat.le_refl _)) (.string (B x.path)) (.string (B x.data)) (.int .i64 x.ver) (.int .i64 x.turn) (.int .i64 x.own)
   generalize (((((World.setCell wr _ _).setCell _ _).setCell _ _).setCell _ _).setCell _ _) = w9 at *
   have s0 := cell_of_row _ w.heap.size 0 _ _ _ hw9
   have s1 := cell_of_row _ w.heap.size 1 _ _ _ hw9
   have s2 := cell_of_row _ w.heap.size 2 _ _ _ hw9
   have s3 := cell_of_row _ w.heap.size 3 _ _ _ hw9
   have s4 := cell_of_row _ w.heap.size 4 _ _ _ hw9
   simp only [zA, zB, zC] at s0 s1 s2 s3 s4
   exact bodyPost_ret (v := .tuple #[.agg #[.string (B x.path), .string (B x.data), .int .i64 x.ver, .int .i64 x.turn, .int .i64 x.own], .bool true]) (by simp [results, Tryz.results60, go_sem, s0, s1, s2, s3, s4]) rfl ⟨by rw [HFN.out]; rfl, hf9⟩
  have hM := Lib.hid (HNX.out hp)
  have q5 : (x.path == p) = false := beq_eq_false_iff_ne.2 hp
  have q6 : (x.path = p) = False := eq_false hp
  have hj := HL.out
  clear hp r0 r1 r2 r3 r4 f0 f1 f2 f3 f4
  go_wp2
  go_roundw
  case rel => exact ⟨k + 1, by omega, by go_num, hM⟩
  case measure => simp [RowKit.intOf]; omega
 have hke : k = n := by omega
 subst hke
 have q3 : ((k : Int) < (k : Int)) = False := eq_false (by omega)
 have hfin := hR.out.none HX.out.1
 have HFN := Lib.hid hfin
 clear hlt hk hfin
 go_wp2
 have hw9 := set5 HB.out (.string ⟨#[]⟩) (.string ⟨#[]⟩) (.int .i64 0) (.int .i64 0) (.int .i64 0)
 have hf9 := fp5 (S := Non) HF.out (b := w.heap.size) (.inr (Nat.le_refl _)) (.string ⟨#[]⟩) (.string ⟨#[]⟩) (.int .i64 0) (.int .i64 0) (.int .i64 0)
 generalize (((((World.setCell wr _ _).setCell _ _).setCell _ _).setCell _ _).setCell _ _) = w9 at *
 have s0 := cell_of_row _ w.heap.size 0 _ _ _ hw9
 have s1 := cell_of_row _ w.heap.size 1 _ _ _ hw9
 have s2 := cell_of_row _ w.heap.size 2 _ _ _ hw9
 have s3 := cell_of_row _ w.heap.size 3 _ _ _ hw9
 have s4 := cell_of_row _ w.heap.size 4 _ _ _ hw9
 simp only [zA, zB, zC] at s0 s1 s2 s3 s4
 exact bodyPost_ret (v := .tuple #[.agg #[.string ⟨#[]⟩, .string ⟨#[]⟩, .int .i64 0, .int .i64 0, .int .i64 0], .bool false]) (by simp [results, Tryz.results60, go_sem, s0, s1, s2, s3, s4]) rfl ⟨by rw [HFN.out]; rfl, hf9⟩
end Go.Proofs.YtphoglepiegeiaaGreatDoor
namespace Go.Proofs.YtphoglepiegeiaaGreatDoor
set_option maxRecDepth 20000
namespace Pm
def sp (acc : List Bs) (cur : Bs) : Bs → Option (List Bs)
 | [] => if isPart cur = true ∧ acc.length < 6 then some (acc ++ [cur]) else none
 | c :: r => if c ≠ 47 then sp acc (cur ++ [c]) r else if isPart cur = true ∧ acc.length < 6 then sp (acc ++ [cur]) [] r else none
theorem cut_head {c : UInt8} {l : Bs} (h : c ≠ 47) : cut (c :: l) = ([], []) := by simp [cut, h]
theorem splitN_bad {n : Nat} {c : UInt8} {l : Bs} (h : c ≠ 47) : splitN n (c :: l) = none := by
 cases n with
 | zero => rfl
 | succ n => unfold splitN; rw [cut_head h]; simp
theorem splitN_no (n : Nat) (cur rest : Bs) (hc : ∀ c ∈ cur, c ≠ 47) (hr : rest = [] ∨ ∃ t, rest = 47 :: t) (hp : isPart cur = false) : splitN n (47 :: (cur ++ rest)) = none := by
 cases n with
 | zero => rfl
 | succ n => ?_
 by_cases h0 : cur = []
 ·subst h0
  have e : pl 12 rest = 0 := by
   rcases hr with rfl | ⟨t, rfl⟩
   ·rfl
   simp [pl, show okB 47 = false from by decide]
  unfold splitN
  simp [cut, e]
 have hlt : pl 12 cur < cur.length := by
  have h1 := pl_len 12 cur
  rcases Nat.lt_or_eq_of_le h1 with h | h
  ·exact h
  rw [(isPart_iff cur).2 ⟨h0, h⟩] at hp; cases hp
 have e : pl 12 (cur ++ rest) = pl 12 cur := by
  have key : ∀ (k : Nat) (x : Bs), pl k x < x.length → pl k (x ++ rest) = pl k x := by
   intro k
   induction k with
   | zero => intro x _; cases x <;> simp [pl]
   | succ k ih =>
    intro x hx
    cases x with
    | nil => simp at hx
    | cons c x => ?_
    by_cases hok : okB c = true
    ·simp [pl, hok] at hx ⊢
     exact ih x hx
    simp [pl, hok]
  exact key 12 cur hlt
 obtain ⟨c, t, hd⟩ : ∃ c t, cur.drop (pl 12 cur) = c :: t := by
  cases hh : cur.drop (pl 12 cur) with
  | nil => have := congrArg List.length hh; simp at this; omega
  | cons c t => exact ⟨c, t, rfl⟩
 have hne : c ≠ 47 := hc c (List.mem_of_mem_drop (by rw [hd]; simp))
 have e2 : (cur ++ rest).drop (pl 12 cur) = c :: (t ++ rest) := by
  rw [List.drop_append_of_le_length (by omega), hd]; rfl
 unfold splitN
 have ec : cut (47 :: (cur ++ rest)) = ((cur ++ rest).take (pl 12 cur), c :: (t ++ rest)) := by
  show ((cur ++ rest).take (pl 12 (cur ++ rest)), (cur ++ rest).drop (pl 12 (cur ++ rest))) = _
  rw [e, e2]
 rw [ec]
 simp only
 rw [splitN_bad hne]
 simp
theorem splitN_part (n : Nat) (cur rest : Bs) (hr : rest = [] ∨ ∃ t, rest = 47 :: t) (hp : isPart cur = true) :
  splitN (n + 1) (47 :: (cur ++ rest)) = if rest = [] then some [cur] else (splitN n rest).map (cur :: ·) := by
 have hi := (isPart_iff cur).1 hp
 have e := pl_app 12 cur rest hi.2 hr
 have ec : cut (47 :: (cur ++ rest)) = (cur, rest) := by
  show ((cur ++ rest).take (pl 12 (cur ++ rest)), (cur ++ rest).drop (pl 12 (cur ++ rest))) = _
  rw [e]; simp
 conv => lhs; unfold splitN
 rw [ec]; simp only; rw [if_neg hi.1]
theorem sp_eq : ∀ (rest cur : Bs) (acc : List Bs), acc.length ≤ 6 → (∀ c ∈ cur, c ≠ 47) → sp acc cur rest = (splitN (6 - acc.length) (47 :: (cur ++ rest))).map (acc ++ ·)
 | [], cur, acc, ha, hc => by
  unfold sp
  cases hp : isPart cur with
  | false => rw [splitN_no _ cur [] hc (Or.inl rfl) hp]; simp
  | true => ?_
  by_cases h6 : acc.length < 6
  ·rw [show 6 - acc.length = (5 - acc.length) + 1 by omega, splitN_part _ cur [] (Or.inl rfl) hp]; simp [h6]
  rw [show 6 - acc.length = 0 by omega]; simp [h6, splitN]
 | c :: r, cur, acc, ha, hc => by
  unfold sp
  by_cases h47 : c ≠ 47
  ·rw [if_pos h47, sp_eq r (cur ++ [c]) acc ha (fun x hx => by rw [List.mem_append] at hx; rcases hx with hx | hx; exact hc x hx; simp at hx; rw [hx]; exact h47)]
   simp
  have h47' : c = 47 := Decidable.not_not.1 h47
  subst h47'
  rw [if_neg h47]
  cases hp : isPart cur with
  | false => rw [splitN_no _ cur (47 :: r) hc (Or.inr ⟨r, rfl⟩) hp]; simp
  | true => ?_
  by_cases h6 : acc.length < 6
  ·rw [if_pos ⟨rfl, h6⟩, sp_eq r [] (acc ++ [cur]) (by simp; omega) (by simp),
    show 6 - acc.length = (5 - acc.length) + 1 by omega, splitN_part _ cur (47 :: r) (Or.inr ⟨r, rfl⟩) hp]
   simp only [List.nil_append, List.length_append, List.length_cons, List.length_nil]
   rw [show 6 - (acc.length + (0 + 1)) = 5 - acc.length by omega, if_neg (by simp)]
   simp [Function.comp_def]
  rw [if_neg (fun h => h6 h.2), show 6 - acc.length = 0 by omega]; simp [splitN]
theorem sp_split (r : Bs) (h : r ≠ []) : split (47 :: r) = sp [] [] r := by
 rw [sp_eq r [] [] (by simp) (by simp)]
 unfold split
 rw [if_neg (by simpa using h)]
 simp
theorem split_other {c : UInt8} {r : Bs} (h : c ≠ 47) : split (c :: r) = none := by
 unfold split; rw [if_neg (by rintro ⟨⟩; exact h rfl), splitN_bad h]
theorem split_nil : split [] = none := by decide
theorem isPart_all (l : Bs) : isPart l = (decide (1 ≤ l.length ∧ l.length ≤ 12) && l.all okB) := by
 rw [Bool.eq_iff_iff, isPart_iff]
 simp only [Bool.and_eq_true, decide_eq_true_eq, List.all_eq_true]
 constructor
 ·rintro ⟨h0, h1⟩
  have hp := isPart_len ((isPart_iff l).2 ⟨h0, h1⟩)
  refine ⟨hp, ?_⟩
  have key : ∀ (k : Nat) (x : Bs), pl k x = x.length → ∀ c ∈ x, okB c = true := by
   intro k
   induction k with
   | zero => intro x hx c hc; cases x with
    | nil => cases hc
    | cons a x => simp [pl] at hx
   | succ k ih =>
    intro x hx c hc
    cases x with
    | nil => cases hc
    | cons a x => ?_
    by_cases ha : okB a = true
    ·simp [pl, ha] at hx
     rcases List.mem_cons.1 hc with rfl | hc
     ·exact ha
     exact ih x hx c hc
    simp [pl, ha] at hx
  exact key 12 l h1
 rintro ⟨⟨h1, h2⟩, h3⟩
 refine ⟨by rintro rfl; simp at h1, ?_⟩
 rw [pl_all 12 l h3]; omega
end Pm
open Go.RowKit Pm
set_option maxHeartbeats 1000000 in
theorem rPart_c (l : Bs) (w : World) (hl : l.length ≤ 9223372036854775807) :
  Calls Tryz.prog 138 #[.string (B l)] w fun e w' => e = .returned (.bool (isPart l)) ∧ w = w' := by
 go_enter Tryz.func138, Tryz.ntmps138
 go_wp2
 go_loop [3] (fun i => ∃ k : Nat, k ≤ l.length ∧ i = .int .i64 k ∧ Hid (∀ i (h : i < l.length), i < k → okB l[i] = true)) (fun i => l.length - (intOf i).toNat)
 case atStart => exact ⟨0, by omega, rfl, fun i h hn => by omega⟩
 obtain ⟨k, hk, rfl, ha⟩ := hrel
 by_cases h1 : k < l.length
 ·obtain ⟨n, hn⟩ : ∃ n, (l[k]).toNat = n := ⟨_, rfl⟩
  by_cases hok : okN n = true
  ·have hnx : Hid (∀ i (h : i < l.length), i < k + 1 → okB l[i] = true) := fun i hi hik => by
    by_cases e : i = k
    ·subst e; unfold okB; rw [hn]; exact hok
    exact ha i hi (by omega)
   clear ha
   have hd : n = 45 ∨ (97 ≤ n ∧ n ≤ 122) ∨ (48 ≤ n ∧ n ≤ 57) := by unfold okN at hok; simp at hok; omega
   clear hok
   rcases hd with rfl | ⟨d1, d2⟩ | ⟨d1, d2⟩
   all_goals (
    go_wp2
    go_round
    case rel => exact ⟨k + 1, by omega, by go_num, hnx⟩
    case measure => simp [intOf]; omega)
  have hbad : isPart l = false := by
   rw [isPart_all, Bool.and_eq_false_iff]; right
   rw [List.all_eq_false]
   exact ⟨l[k], List.getElem_mem h1, by unfold okB; rw [hn]; exact hok⟩
  have HB := Lib.hid hbad; clear hbad ha
  have hd : n < 45 ∨ (45 < n ∧ n < 48) ∨ (57 < n ∧ n < 97) ∨ 122 < n := by unfold okN at hok; simp at hok; omega
  clear hok
  rcases hd with d1 | ⟨d1, d2⟩ | ⟨d1, d2⟩ | d1
  all_goals (
   have hne : ((n : Int) != 45) = true := by rw [bne_iff_ne]; omega
   go_wp2
   go_ret
   exact ⟨ret_bool HB.out.symm, rfl⟩)
 have hke : k = l.length := by omega
 subst hke
 have hall : l.all okB = true := by
  rw [List.all_eq_true]; intro c hc
  obtain ⟨i, hi, rfl⟩ := List.getElem_of_mem hc
  exact ha i hi hi
 have hp : isPart l = decide (1 ≤ l.length ∧ l.length ≤ 12) := by rw [isPart_all, hall, Bool.and_true]
 have HP := Lib.hid hp; clear hp hall ha
 go_wp2
 all_goals (go_ret; refine ⟨ret_bool ?_, rfl⟩; rw [HP.out, Bool.eq_iff_iff]; simp; omega)
end Go.Proofs.YtphoglepiegeiaaGreatDoor
