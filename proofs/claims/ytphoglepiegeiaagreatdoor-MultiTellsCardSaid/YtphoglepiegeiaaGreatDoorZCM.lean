/- A text of this proof. -/
import Derived.Test.YtphoglepiegeiaaGreatDoorZCC
import Derived.Test.YtphoglepiegeiaaGreatDoorZCE
import Derived.Test.YtphoglepiegeiaaGreatDoorZCF
import Derived.Test.YtphoglepiegeiaaGreatDoorZCG
set_option linter.unusedSimpArgs false
set_option linter.unusedVariables false
namespace Go.Proofs.YtphoglepiegeiaaGreatDoor
set_option maxRecDepth 20000
open Go.RowKit Pm
abbrev TP : TypeId := 27
def ptC (x : Pt) : List Value := [.int .i64 x.kind, strV x.dir, strV x.path, strV x.data, .int .i64 x.ver, .int .i64 x.own, .bool x.turns]
def ptV (x : Pt) : Value := .agg #[.int .i64 x.kind, strV x.dir, strV x.path, strV x.data, .int .i64 x.ver, .int .i64 x.own, .bool x.turns]
theorem boxP7 {w : World} {b : Nat} {T : TypeId} {c0 c1 c2 c3 c4 c5 c6 : Value} (h : w.heap[b]? = some (.cells #[c0, c1, c2, c3, c4, c5, c6] T (0, 0))) :
  w.cell? ⟨b, 0, none⟩ = some c0 ∧ w.cell? ⟨b, 1, none⟩ = some c1 ∧ w.cell? ⟨b, 2, none⟩ = some c2 ∧ w.cell? ⟨b, 3, none⟩ = some c3 ∧ w.cell? ⟨b, 4, none⟩ = some c4 ∧ w.cell? ⟨b, 5, none⟩ = some c5 ∧ w.cell? ⟨b, 6, none⟩ = some c6 :=
 ⟨by rw [cell_of_row _ _ _ _ _ _ h]; rfl, by rw [cell_of_row _ _ _ _ _ _ h]; rfl, by rw [cell_of_row _ _ _ _ _ _ h]; rfl, by rw [cell_of_row _ _ _ _ _ _ h]; rfl, by rw [cell_of_row _ _ _ _ _ _ h]; rfl, by rw [cell_of_row _ _ _ _ _ _ h]; rfl, by rw [cell_of_row _ _ _ _ _ _ h]; rfl⟩
theorem boxP3 {w : World} {b : Nat} {T : TypeId} {c0 c1 c2 c3 c4 c5 c6 : Value} (h : w.heap[b]? = some (.cells #[c0, c1, c2, c3, c4, c5, c6] T (0, 0))) :
  w.cell? ⟨b, 0, none⟩ = some c0 ∧ w.cell? ⟨b, 1, none⟩ = some c1 ∧ w.cell? ⟨b, 2, none⟩ = some c2 := ⟨(boxP7 h).1, (boxP7 h).2.1, (boxP7 h).2.2.1⟩
set_option maxHeartbeats 8000000 in
theorem mayP_c (x : Pt) (w : World) (hl : x.path.length ≤ 1000000) :
  Calls Tryz.prog 21 #[ptV x] w fun e w' => e = .returned (.bool (mayP x)) ∧ Fp Non w w' := by
 have hri := fun w => Right_g x.path w (sz_of hl (by omega))
 have hke := fun w => keptAt_c x.kind x.path w hl
 obtain ⟨k, d, p, da, v, o, t⟩ := x
 obtain ⟨sp, hsp⟩ : ∃ b, (split p).isSome = b := ⟨_, rfl⟩
 obtain ⟨kp, hkp⟩ : ∃ b, keptAt k p = b := ⟨_, rfl⟩
 simp only at hri hke
 rw [hsp] at hri
 rw [hkp] at hke
 obtain ⟨b1, h1⟩ : ∃ r, decide ((-1 : Int) ≤ v ∧ v ≤ 281474976710656) = r := ⟨_, rfl⟩
 obtain ⟨b3, h3⟩ : ∃ r, decide ((0 : Int) ≤ o ∧ o ≤ 1099511627776) = r := ⟨_, rfl⟩
 obtain ⟨n, hn⟩ : ∃ n, n = da.length := ⟨_, rfl⟩
 have W1 := zI (fun w => withinP_d v (-1) 281474976710656 w b1 h1)
 have W3 := zI (fun w => withinP_d o 0 1099511627776 w b3 h3)
 obtain ⟨r, hr⟩ : ∃ r, mayP ⟨k, d, p, da, v, o, t⟩ = r := ⟨_, rfl⟩
 have key : r = (decide (1 ≤ k) && decide (k ≤ 10) && sp && decide (d = kp) && !(decide (k = 2) && decide (p = [47])) && decide (n ≤ 256) && b1 && b3) := by
  rw [← hr, ← hsp, ← h1, ← h3, hn, ← hkp]
  by_cases a1 : p = [47] <;> by_cases a2 : k = 2 <;> (rw [Bool.eq_iff_iff, mayP_iff]; simp [a1, a2, and_assoc])
 have HR := zI hri
 have HKE := zI hke
 have HFin := zI (show ∀ c : Bool, (decide (1 ≤ k) && decide (k ≤ 10) && sp && decide (d = kp) && !(decide (k = 2) && decide (p = [47])) && decide (n ≤ 256) && b1 && b3) = c → r = c from fun c h => by rw [key, h])
 rw [hr]
 have hf0 := fp_alloc w (.cells #[.int .i64 k, .string (B d), .string (B p), .string (B da), .int .i64 v, .int .i64 o, .bool t] TP)
 have hb0 := heap_alloc_new w (.cells #[.int .i64 k, .string (B d), .string (B p), .string (B da), .int .i64 v, .int .i64 o, .bool t] TP)
 have HF0 := zI (yI hf0 hb0)
 unfold ptV strV
 clear hri hke hsp hkp h1 h3 hr key hl hf0 hb0
 by_cases ha : 1 ≤ k
 ·have q1 : (k < (1 : Int)) = False := eq_false (by omega)
  by_cases hb : k ≤ 10
  ·have q2 : ((11 : Int) ≤ k) = False := eq_false (by omega)
   cases sp with
   | false =>
    have Q := zI (yI ha (hb))
    clear ha hb hn
    go_enter Tryz.func21, Tryz.ntmps21
    go_wp2_with fail
    refine wp_region_held_drew (S := (fun w' => w'.cell? ⟨w.heap.size, 0, none⟩ = some (.int .i64 k) ∧ w'.cell? ⟨w.heap.size, 1, none⟩ = some (.string (B d)) ∧ w'.cell? ⟨w.heap.size, 2, none⟩ = some (.string (B p)))) (by kernel_rfl) ?_ (fun hH => ?_)
    ·exact boxP3 ((Fp.refl Non _).drew.heap HF0.out.2 id)
    refine tk 0 hH ?_
    refine tk 1 hH ?_
    refine tk 2 hH ?_
    refine tk 3 hH ?_
    refine tk 4 hH ?_
    refine tk 5 hH ?_
    refine tk 6 hH ?_
    refine tk 7 hH ?_
    refine tk 8 hH ?_
    refine tk 9 hH ?_
    refine tk 10 hH ?_
    refine rY 11 fun K hK => ?_
    go_simp
    go_at_call 64
    refine (HR.out _).mono ?_
    rintro e w1 ⟨rfl, g1⟩
    have hb1 := g1.fp.heap (k := w.heap.size) ((Fp.refl Non _).drew.heap HF0.out.2 id) id
    have HB1 := zI hb1
    have HS1 := zI (boxP3 hb1)
    have F1 := zI (HF0.out.1.then (((Fp.refl Non _).drew).then g1.fp))
    clear g1 hb1
    go_wp2_with fail
    refine hK.out _ _ HS1.out (fun hH => ?_)
    clear hK K
    try simp only [zz]
    refine tk 12 hH ?_
    refine tk 13 hH ?_
    refine tk 14 hH ?_
    refine sk 15 hH ?_
    refine sk 16 hH ?_
    refine sk 17 hH ?_
    refine sk 18 hH ?_
    refine sk 19 hH ?_
    refine sk 20 hH ?_
    refine sk 21 hH ?_
    refine sk 22 hH ?_
    refine tk 23 hH ?_
    refine dn ?_
    go_wp2
    go_ret
    exact ⟨ret_bool (HFin.out _ (by simp [Q.out])).symm, F1.out⟩
   | true => ?_
   by_cases hd0 : d = kp
   ·have q3 : (d != kp) = false := by simpa using hd0
    have q3b : (d == kp) = true := by simpa using hd0
    have q3c : (d = kp) = True := eq_true hd0
    by_cases h2 : k = 2
    ·have q4 : (k == 2) = true := by simpa using h2
     have q4b : (k = 2) = True := eq_true h2
     by_cases hp : p = [47]
     ·have q7 : (p == [47]) = true := by simpa using hp
      have q7b : (p = [47]) = True := eq_true hp
      have Q := zI (yI ha (yI hb (yI hd0 (yI h2 (hp)))))
      clear ha hb hd0 h2 hp hn
      go_enter Tryz.func21, Tryz.ntmps21
      go_wp2_with fail
      refine wp_region_held_drew (S := (fun w' => w'.cell? ⟨w.heap.size, 0, none⟩ = some (.int .i64 k) ∧ w'.cell? ⟨w.heap.size, 1, none⟩ = some (.string (B d)) ∧ w'.cell? ⟨w.heap.size, 2, none⟩ = some (.string (B p)))) (by kernel_rfl) ?_ (fun hH => ?_)
      ·exact boxP3 ((Fp.refl Non _).drew.heap HF0.out.2 id)
      refine tk 0 hH ?_
      refine tk 1 hH ?_
      refine tk 2 hH ?_
      refine tk 3 hH ?_
      refine tk 4 hH ?_
      refine tk 5 hH ?_
      refine tk 6 hH ?_
      refine tk 7 hH ?_
      refine tk 8 hH ?_
      refine tk 9 hH ?_
      refine tk 10 hH ?_
      refine rY 11 fun K hK => ?_
      go_simp
      go_at_call 64
      refine (HR.out _).mono ?_
      rintro e w1 ⟨rfl, g1⟩
      have hb1 := g1.fp.heap (k := w.heap.size) ((Fp.refl Non _).drew.heap HF0.out.2 id) id
      have HB1 := zI hb1
      have HS1 := zI (boxP3 hb1)
      have F1 := zI (HF0.out.1.then (((Fp.refl Non _).drew).then g1.fp))
      clear g1 hb1
      go_wp2_with fail
      refine hK.out _ _ HS1.out (fun hH => ?_)
      clear hK K
      try simp only [zz]
      refine tk 12 hH ?_
      refine tk 13 hH ?_
      refine tk 14 hH ?_
      refine tk 15 hH ?_
      refine tk 16 hH ?_
      refine tk 17 hH ?_
      refine tk 18 hH ?_
      refine tk 19 hH ?_
      refine tk 20 hH ?_
      refine rY 21 fun K hK => ?_
      go_simp
      go_at_call 68
      refine (HKE.out _).mono ?_
      rintro e w2 ⟨rfl, g2⟩
      have hb2 := g2.heap (k := w.heap.size) HB1.out id
      have HB2 := zI hb2
      have HS2 := zI (boxP3 hb2)
      have F := zI (F1.out.then g2)
      clear g2 hb2
      go_wp2_with fail
      refine hK.out _ _ HS2.out (fun hH => ?_)
      clear hK K
      try simp only [zz]
      refine tk 22 hH ?_
      refine tk 23 hH ?_
      refine dn ?_
      obtain ⟨c0, c1, c2, c3, c4, c5, c6⟩ := boxP7 HB2.out
      go_wp2
      go_ret
      exact ⟨ret_bool (HFin.out _ (by simp [Q.out])).symm, F.out⟩
     have q7 : (p == [47]) = false := by simpa using hp
     have q7b : (p = [47]) = False := eq_false hp
     by_cases hd : n ≤ 256
     ·have q5 : ((256 : Int) < (da.length : Int)) = False := eq_false (by omega)
      have q6 : ((da.length : Int) ≤ (256 : Int)) = True := eq_true (by omega)
      have Q := zI (yI ha (yI hb (yI hd0 (yI h2 (yI hp (hd))))))
      clear ha hb hd0 h2 hp hd hn
      go_enter Tryz.func21, Tryz.ntmps21
      go_wp2_with fail
      refine wp_region_held_drew (S := (fun w' => w'.cell? ⟨w.heap.size, 0, none⟩ = some (.int .i64 k) ∧ w'.cell? ⟨w.heap.size, 1, none⟩ = some (.string (B d)) ∧ w'.cell? ⟨w.heap.size, 2, none⟩ = some (.string (B p)))) (by kernel_rfl) ?_ (fun hH => ?_)
      ·exact boxP3 ((Fp.refl Non _).drew.heap HF0.out.2 id)
      refine tk 0 hH ?_
      refine tk 1 hH ?_
      refine tk 2 hH ?_
      refine tk 3 hH ?_
      refine tk 4 hH ?_
      refine tk 5 hH ?_
      refine tk 6 hH ?_
      refine tk 7 hH ?_
      refine tk 8 hH ?_
      refine tk 9 hH ?_
      refine tk 10 hH ?_
      refine rY 11 fun K hK => ?_
      go_simp
      go_at_call 64
      refine (HR.out _).mono ?_
      rintro e w1 ⟨rfl, g1⟩
      have hb1 := g1.fp.heap (k := w.heap.size) ((Fp.refl Non _).drew.heap HF0.out.2 id) id
      have HB1 := zI hb1
      have HS1 := zI (boxP3 hb1)
      have F1 := zI (HF0.out.1.then (((Fp.refl Non _).drew).then g1.fp))
      clear g1 hb1
      go_wp2_with fail
      refine hK.out _ _ HS1.out (fun hH => ?_)
      clear hK K
      try simp only [zz]
      refine tk 12 hH ?_
      refine tk 13 hH ?_
      refine tk 14 hH ?_
      refine tk 15 hH ?_
      refine tk 16 hH ?_
      refine tk 17 hH ?_
      refine tk 18 hH ?_
      refine tk 19 hH ?_
      refine tk 20 hH ?_
      refine rY 21 fun K hK => ?_
      go_simp
      go_at_call 68
      refine (HKE.out _).mono ?_
      rintro e w2 ⟨rfl, g2⟩
      have hb2 := g2.heap (k := w.heap.size) HB1.out id
      have HB2 := zI hb2
      have HS2 := zI (boxP3 hb2)
      have F := zI (F1.out.then g2)
      clear g2 hb2
      go_wp2_with fail
      refine hK.out _ _ HS2.out (fun hH => ?_)
      clear hK K
      try simp only [zz]
      refine tk 22 hH ?_
      refine tk 23 hH ?_
      refine dn ?_
      obtain ⟨c0, c1, c2, c3, c4, c5, c6⟩ := boxP7 HB2.out
      cases b1 <;> cases b3
      all_goals
       go_wp2_with (first
        | (go_at_call_of 65 v; refine (W1.out _).mono ?_; rintro e w3 ⟨rfl, rfl⟩)
        | (go_at_call_of 65 o; refine (W3.out _).mono ?_; rintro e w3 ⟨rfl, rfl⟩))
       go_ret
       exact ⟨ret_bool (HFin.out _ (by simp [Q.out])).symm, F.out⟩
     have q5 : ((256 : Int) < (da.length : Int)) = True := eq_true (by omega)
     have q6 : ((da.length : Int) ≤ (256 : Int)) = False := eq_false (by omega)
     have Q := zI (yI ha (yI hb (yI hd0 (yI h2 (yI hp (hd))))))
     clear ha hb hd0 h2 hp hd hn
     go_enter Tryz.func21, Tryz.ntmps21
     go_wp2_with fail
     refine wp_region_held_drew (S := (fun w' => w'.cell? ⟨w.heap.size, 0, none⟩ = some (.int .i64 k) ∧ w'.cell? ⟨w.heap.size, 1, none⟩ = some (.string (B d)) ∧ w'.cell? ⟨w.heap.size, 2, none⟩ = some (.string (B p)))) (by kernel_rfl) ?_ (fun hH => ?_)
     ·exact boxP3 ((Fp.refl Non _).drew.heap HF0.out.2 id)
     refine tk 0 hH ?_
     refine tk 1 hH ?_
     refine tk 2 hH ?_
     refine tk 3 hH ?_
     refine tk 4 hH ?_
     refine tk 5 hH ?_
     refine tk 6 hH ?_
     refine tk 7 hH ?_
     refine tk 8 hH ?_
     refine tk 9 hH ?_
     refine tk 10 hH ?_
     refine rY 11 fun K hK => ?_
     go_simp
     go_at_call 64
     refine (HR.out _).mono ?_
     rintro e w1 ⟨rfl, g1⟩
     have hb1 := g1.fp.heap (k := w.heap.size) ((Fp.refl Non _).drew.heap HF0.out.2 id) id
     have HB1 := zI hb1
     have HS1 := zI (boxP3 hb1)
     have F1 := zI (HF0.out.1.then (((Fp.refl Non _).drew).then g1.fp))
     clear g1 hb1
     go_wp2_with fail
     refine hK.out _ _ HS1.out (fun hH => ?_)
     clear hK K
     try simp only [zz]
     refine tk 12 hH ?_
     refine tk 13 hH ?_
     refine tk 14 hH ?_
     refine tk 15 hH ?_
     refine tk 16 hH ?_
     refine tk 17 hH ?_
     refine tk 18 hH ?_
     refine tk 19 hH ?_
     refine tk 20 hH ?_
     refine rY 21 fun K hK => ?_
     go_simp
     go_at_call 68
     refine (HKE.out _).mono ?_
     rintro e w2 ⟨rfl, g2⟩
     have hb2 := g2.heap (k := w.heap.size) HB1.out id
     have HB2 := zI hb2
     have HS2 := zI (boxP3 hb2)
     have F := zI (F1.out.then g2)
     clear g2 hb2
     go_wp2_with fail
     refine hK.out _ _ HS2.out (fun hH => ?_)
     clear hK K
     try simp only [zz]
     refine tk 22 hH ?_
     refine tk 23 hH ?_
     refine dn ?_
     obtain ⟨c0, c1, c2, c3, c4, c5, c6⟩ := boxP7 HB2.out
     go_wp2
     go_ret
     exact ⟨ret_bool (HFin.out _ (by simp [Q.out])).symm, F.out⟩
    have q4 : (k == 2) = false := by simpa using h2
    have q4b : (k = 2) = False := eq_false h2
    by_cases hd : n ≤ 256
    ·have q5 : ((256 : Int) < (da.length : Int)) = False := eq_false (by omega)
     have q6 : ((da.length : Int) ≤ (256 : Int)) = True := eq_true (by omega)
     have Q := zI (yI ha (yI hb (yI hd0 (yI h2 (hd)))))
     clear ha hb hd0 h2 hd hn
     go_enter Tryz.func21, Tryz.ntmps21
     go_wp2_with fail
     refine wp_region_held_drew (S := (fun w' => w'.cell? ⟨w.heap.size, 0, none⟩ = some (.int .i64 k) ∧ w'.cell? ⟨w.heap.size, 1, none⟩ = some (.string (B d)) ∧ w'.cell? ⟨w.heap.size, 2, none⟩ = some (.string (B p)))) (by kernel_rfl) ?_ (fun hH => ?_)
     ·exact boxP3 ((Fp.refl Non _).drew.heap HF0.out.2 id)
     refine tk 0 hH ?_
     refine tk 1 hH ?_
     refine tk 2 hH ?_
     refine tk 3 hH ?_
     refine tk 4 hH ?_
     refine tk 5 hH ?_
     refine tk 6 hH ?_
     refine tk 7 hH ?_
     refine tk 8 hH ?_
     refine tk 9 hH ?_
     refine tk 10 hH ?_
     refine rY 11 fun K hK => ?_
     go_simp
     go_at_call 64
     refine (HR.out _).mono ?_
     rintro e w1 ⟨rfl, g1⟩
     have hb1 := g1.fp.heap (k := w.heap.size) ((Fp.refl Non _).drew.heap HF0.out.2 id) id
     have HB1 := zI hb1
     have HS1 := zI (boxP3 hb1)
     have F1 := zI (HF0.out.1.then (((Fp.refl Non _).drew).then g1.fp))
     clear g1 hb1
     go_wp2_with fail
     refine hK.out _ _ HS1.out (fun hH => ?_)
     clear hK K
     try simp only [zz]
     refine tk 12 hH ?_
     refine tk 13 hH ?_
     refine tk 14 hH ?_
     refine tk 15 hH ?_
     refine tk 16 hH ?_
     refine tk 17 hH ?_
     refine tk 18 hH ?_
     refine tk 19 hH ?_
     refine tk 20 hH ?_
     refine rY 21 fun K hK => ?_
     go_simp
     go_at_call 68
     refine (HKE.out _).mono ?_
     rintro e w2 ⟨rfl, g2⟩
     have hb2 := g2.heap (k := w.heap.size) HB1.out id
     have HB2 := zI hb2
     have HS2 := zI (boxP3 hb2)
     have F := zI (F1.out.then g2)
     clear g2 hb2
     go_wp2_with fail
     refine hK.out _ _ HS2.out (fun hH => ?_)
     clear hK K
     try simp only [zz]
     refine tk 22 hH ?_
     refine tk 23 hH ?_
     refine dn ?_
     obtain ⟨c0, c1, c2, c3, c4, c5, c6⟩ := boxP7 HB2.out
     cases b1 <;> cases b3
     all_goals
      go_wp2_with (first
       | (go_at_call_of 65 v; refine (W1.out _).mono ?_; rintro e w3 ⟨rfl, rfl⟩)
       | (go_at_call_of 65 o; refine (W3.out _).mono ?_; rintro e w3 ⟨rfl, rfl⟩))
      go_ret
      exact ⟨ret_bool (HFin.out _ (by simp [Q.out])).symm, F.out⟩
    have q5 : ((256 : Int) < (da.length : Int)) = True := eq_true (by omega)
    have q6 : ((da.length : Int) ≤ (256 : Int)) = False := eq_false (by omega)
    have Q := zI (yI ha (yI hb (yI hd0 (yI h2 (hd)))))
    clear ha hb hd0 h2 hd hn
    go_enter Tryz.func21, Tryz.ntmps21
    go_wp2_with fail
    refine wp_region_held_drew (S := (fun w' => w'.cell? ⟨w.heap.size, 0, none⟩ = some (.int .i64 k) ∧ w'.cell? ⟨w.heap.size, 1, none⟩ = some (.string (B d)) ∧ w'.cell? ⟨w.heap.size, 2, none⟩ = some (.string (B p)))) (by kernel_rfl) ?_ (fun hH => ?_)
    ·exact boxP3 ((Fp.refl Non _).drew.heap HF0.out.2 id)
    refine tk 0 hH ?_
    refine tk 1 hH ?_
    refine tk 2 hH ?_
    refine tk 3 hH ?_
    refine tk 4 hH ?_
    refine tk 5 hH ?_
    refine tk 6 hH ?_
    refine tk 7 hH ?_
    refine tk 8 hH ?_
    refine tk 9 hH ?_
    refine tk 10 hH ?_
    refine rY 11 fun K hK => ?_
    go_simp
    go_at_call 64
    refine (HR.out _).mono ?_
    rintro e w1 ⟨rfl, g1⟩
    have hb1 := g1.fp.heap (k := w.heap.size) ((Fp.refl Non _).drew.heap HF0.out.2 id) id
    have HB1 := zI hb1
    have HS1 := zI (boxP3 hb1)
    have F1 := zI (HF0.out.1.then (((Fp.refl Non _).drew).then g1.fp))
    clear g1 hb1
    go_wp2_with fail
    refine hK.out _ _ HS1.out (fun hH => ?_)
    clear hK K
    try simp only [zz]
    refine tk 12 hH ?_
    refine tk 13 hH ?_
    refine tk 14 hH ?_
    refine tk 15 hH ?_
    refine tk 16 hH ?_
    refine tk 17 hH ?_
    refine tk 18 hH ?_
    refine tk 19 hH ?_
    refine tk 20 hH ?_
    refine rY 21 fun K hK => ?_
    go_simp
    go_at_call 68
    refine (HKE.out _).mono ?_
    rintro e w2 ⟨rfl, g2⟩
    have hb2 := g2.heap (k := w.heap.size) HB1.out id
    have HB2 := zI hb2
    have HS2 := zI (boxP3 hb2)
    have F := zI (F1.out.then g2)
    clear g2 hb2
    go_wp2_with fail
    refine hK.out _ _ HS2.out (fun hH => ?_)
    clear hK K
    try simp only [zz]
    refine tk 22 hH ?_
    refine tk 23 hH ?_
    refine dn ?_
    obtain ⟨c0, c1, c2, c3, c4, c5, c6⟩ := boxP7 HB2.out
    go_wp2
    go_ret
    exact ⟨ret_bool (HFin.out _ (by simp [Q.out])).symm, F.out⟩
   have q3 : (d != kp) = true := by simpa using hd0
   have q3b : (d == kp) = false := by simpa using hd0
   have q3c : (d = kp) = False := eq_false hd0
   have Q := zI (yI ha (yI hb (hd0)))
   clear ha hb hd0 hn
   go_enter Tryz.func21, Tryz.ntmps21
   go_wp2_with fail
   refine wp_region_held_drew (S := (fun w' => w'.cell? ⟨w.heap.size, 0, none⟩ = some (.int .i64 k) ∧ w'.cell? ⟨w.heap.size, 1, none⟩ = some (.string (B d)) ∧ w'.cell? ⟨w.heap.size, 2, none⟩ = some (.string (B p)))) (by kernel_rfl) ?_ (fun hH => ?_)
   ·exact boxP3 ((Fp.refl Non _).drew.heap HF0.out.2 id)
   refine tk 0 hH ?_
   refine tk 1 hH ?_
   refine tk 2 hH ?_
   refine tk 3 hH ?_
   refine tk 4 hH ?_
   refine tk 5 hH ?_
   refine tk 6 hH ?_
   refine tk 7 hH ?_
   refine tk 8 hH ?_
   refine tk 9 hH ?_
   refine tk 10 hH ?_
   refine rY 11 fun K hK => ?_
   go_simp
   go_at_call 64
   refine (HR.out _).mono ?_
   rintro e w1 ⟨rfl, g1⟩
   have hb1 := g1.fp.heap (k := w.heap.size) ((Fp.refl Non _).drew.heap HF0.out.2 id) id
   have HB1 := zI hb1
   have HS1 := zI (boxP3 hb1)
   have F1 := zI (HF0.out.1.then (((Fp.refl Non _).drew).then g1.fp))
   clear g1 hb1
   go_wp2_with fail
   refine hK.out _ _ HS1.out (fun hH => ?_)
   clear hK K
   try simp only [zz]
   refine tk 12 hH ?_
   refine tk 13 hH ?_
   refine tk 14 hH ?_
   refine tk 15 hH ?_
   refine tk 16 hH ?_
   refine tk 17 hH ?_
   refine tk 18 hH ?_
   refine tk 19 hH ?_
   refine tk 20 hH ?_
   refine rY 21 fun K hK => ?_
   go_simp
   go_at_call 68
   refine (HKE.out _).mono ?_
   rintro e w2 ⟨rfl, g2⟩
   have hb2 := g2.heap (k := w.heap.size) HB1.out id
   have HB2 := zI hb2
   have HS2 := zI (boxP3 hb2)
   have F := zI (F1.out.then g2)
   clear g2 hb2
   go_wp2_with fail
   refine hK.out _ _ HS2.out (fun hH => ?_)
   clear hK K
   try simp only [zz]
   refine tk 22 hH ?_
   refine tk 23 hH ?_
   refine dn ?_
   obtain ⟨c0, c1, c2, c3, c4, c5, c6⟩ := boxP7 HB2.out
   go_wp2
   go_ret
   exact ⟨ret_bool (HFin.out _ (by simp [Q.out])).symm, F.out⟩
  have q2 : ((11 : Int) ≤ k) = True := eq_true (by omega)
  have Q := zI (yI ha (hb))
  clear ha hb hn
  go_enter Tryz.func21, Tryz.ntmps21
  go_wp2_with fail
  refine wp_region_held_drew (S := (fun w' => w'.cell? ⟨w.heap.size, 0, none⟩ = some (.int .i64 k) ∧ w'.cell? ⟨w.heap.size, 1, none⟩ = some (.string (B d)) ∧ w'.cell? ⟨w.heap.size, 2, none⟩ = some (.string (B p)))) (by kernel_rfl) ?_ (fun hH => ?_)
  ·exact boxP3 ((Fp.refl Non _).drew.heap HF0.out.2 id)
  refine tk 0 hH ?_
  refine tk 1 hH ?_
  refine tk 2 hH ?_
  refine tk 3 hH ?_
  refine tk 4 hH ?_
  refine tk 5 hH ?_
  refine tk 6 hH ?_
  refine tk 7 hH ?_
  refine tk 8 hH ?_
  refine sk 9 hH ?_
  refine sk 10 hH ?_
  refine sk 11 hH ?_
  refine sk 12 hH ?_
  refine tk 13 hH ?_
  refine tk 14 hH ?_
  refine sk 15 hH ?_
  refine sk 16 hH ?_
  refine sk 17 hH ?_
  refine sk 18 hH ?_
  refine sk 19 hH ?_
  refine sk 20 hH ?_
  refine sk 21 hH ?_
  refine sk 22 hH ?_
  refine tk 23 hH ?_
  refine dn ?_
  go_wp2
  go_ret
  exact ⟨ret_bool (HFin.out _ (by have h := Q.out; have e : (decide (1 ≤ k) && decide (k ≤ 10)) = false := (by rw [Bool.and_eq_false_iff, decide_eq_false_iff_not, decide_eq_false_iff_not]; omega); rw [e]; rfl)).symm, HF0.out.1.then (Fp.refl Non _).drew⟩
 have q1 : (k < (1 : Int)) = True := eq_true (by omega)
 have Q := zI (ha)
 clear ha hn
 go_enter Tryz.func21, Tryz.ntmps21
 go_wp2_with fail
 refine wp_region_held_drew (S := (fun w' => w'.cell? ⟨w.heap.size, 0, none⟩ = some (.int .i64 k) ∧ w'.cell? ⟨w.heap.size, 1, none⟩ = some (.string (B d)) ∧ w'.cell? ⟨w.heap.size, 2, none⟩ = some (.string (B p)))) (by kernel_rfl) ?_ (fun hH => ?_)
 ·exact boxP3 ((Fp.refl Non _).drew.heap HF0.out.2 id)
 refine tk 0 hH ?_
 refine tk 1 hH ?_
 refine tk 2 hH ?_
 refine tk 3 hH ?_
 refine sk 4 hH ?_
 refine sk 5 hH ?_
 refine sk 6 hH ?_
 refine tk 7 hH ?_
 refine tk 8 hH ?_
 refine sk 9 hH ?_
 refine sk 10 hH ?_
 refine sk 11 hH ?_
 refine sk 12 hH ?_
 refine tk 13 hH ?_
 refine tk 14 hH ?_
 refine sk 15 hH ?_
 refine sk 16 hH ?_
 refine sk 17 hH ?_
 refine sk 18 hH ?_
 refine sk 19 hH ?_
 refine sk 20 hH ?_
 refine sk 21 hH ?_
 refine sk 22 hH ?_
 refine tk 23 hH ?_
 refine dn ?_
 go_wp2
 go_ret
 exact ⟨ret_bool (HFin.out _ (by have h := Q.out; have e : (decide (1 ≤ k) && decide (k ≤ 10)) = false := (by rw [Bool.and_eq_false_iff, decide_eq_false_iff_not, decide_eq_false_iff_not]; omega); rw [e]; rfl)).symm, HF0.out.1.then (Fp.refl Non _).drew⟩
section
variable {α : Type} {enc : α → List Value} {k : Nat}
def rowsG (enc : α → List Value) (l : List α) : List Value := l.flatMap enc
theorem rowsG_cons (x : α) (l : List α) : rowsG enc (x :: l) = enc x ++ rowsG enc l := by simp [rowsG]
theorem rowsG_app (a b : List α) : rowsG enc (a ++ b) = rowsG enc a ++ rowsG enc b := by simp [rowsG]
theorem rowsG_len (hk : ∀ x, (enc x).length = k) (l : List α) : (rowsG enc l).length = l.length * k := by
 induction l with
 | nil => simp [rowsG]
 | cons x l ih => rw [rowsG_cons, List.length_append, hk, ih, List.length_cons, Nat.add_mul, Nat.one_mul, Nat.add_comm]
theorem rowsG_get (hk : ∀ x, (enc x).length = k) (l : List α) (i j : Nat) (hi : i < l.length) (hj : j < k) : (rowsG enc l)[i * k + j]? = (enc l[i])[j]? := by
 induction l generalizing i with
 | nil => simp at hi
 | cons x l ih =>
  rw [rowsG_cons]
  cases i with
  | zero => rw [List.getElem?_append_left (by rw [hk]; omega)]; simp
  | succ i => ?_
  have e : (i + 1) * k + j = k + (i * k + j) := by rw [Nat.add_mul, Nat.one_mul]; omega
  rw [List.getElem?_append_right (by rw [hk, e]; omega), hk, e, Nat.add_sub_cancel_left, ih i (by simpa using hi)]
  simp
theorem rowsG_one (h1 : ∀ x, ∀ u ∈ enc x, u.oneCell' = true) (l : List α) : ∀ u ∈ rowsG enc l, u.oneCell' = true := by
 intro u hu
 unfold rowsG at hu
 obtain ⟨x, _, hx⟩ := List.mem_flatMap.1 hu
 exact h1 x u hx
structure ElAt (enc : α → List Value) (w : World) (g o : Nat) (x : α) : Prop where
 get : ∀ j v, (enc x)[j]? = some v → w.cell? ⟨g, o + j, none⟩ = some v
theorem ElAt.keep {w w' : World} {g o : Nat} {x : α} (h : ElAt enc w g o x) {S : Nat → Prop} (f : Fp S w w') (hS : ¬ S g) : ElAt enc w' g o x := ⟨fun j v hv => f.cell (h.get j v hv) hS⟩
structure Sg (enc : α → List Value) (k : Nat) (w : World) (v : Value) (l : List α) : Prop where
 ex : ∃ ao cap, v = .slice ao l.length cap ∧ (l = [] ∨ ∃ g o, ao = some ⟨g, o, none⟩ ∧ ∀ i (h : i < l.length), ElAt enc w g (o + i * k) l[i])
theorem Sg.non {w w' : World} {v : Value} {l : List α} (h : Sg enc k w v l) (f : Fp Non w w') : Sg enc k w' v l := by
 obtain ⟨ao, cap, rfl, h3⟩ := h.ex
 refine ⟨ao, cap, rfl, ?_⟩
 rcases h3 with h3 | ⟨g, o, rfl, hc⟩
 ·exact .inl h3
 exact .inr ⟨g, o, rfl, fun i hi => (hc i hi).keep f id⟩
theorem Sg.shape {w : World} {v : Value} {l : List α} (h : Sg enc k w v l) : ∃ ao cap, v = .slice ao l.length cap := by
 obtain ⟨ao, cap, rfl, _⟩ := h.ex; exact ⟨ao, cap, rfl⟩
theorem Sg.nil (w : World) : Sg enc k w (.slice none 0 0) [] := ⟨none, 0, rfl, .inl rfl⟩
theorem Sg.at {w : World} {v : Value} {l : List α} (h : Sg enc k w v l) (h0 : 0 < l.length) : ∃ g o cap, v = .slice (some ⟨g, o, none⟩) l.length cap ∧ ∀ i (h : i < l.length), ElAt enc w g (o + i * k) l[i] := by
 obtain ⟨ao, cap, rfl, h3⟩ := h.ex
 rcases h3 with h3 | ⟨g, o, rfl, hc⟩
 ·subst h3; simp at h0
 exact ⟨g, o, cap, rfl, hc⟩
def OwG (T : TypeId) (enc : α → List Value) (k : Nat) (lo : Nat) (w : World) (v : Value) (l : List α) : Prop := w.ownsRow lo T k v l.length (rowsG enc l)
variable {T : TypeId}
theorem OwG.nil (lo : Nat) (w : World) : OwG T enc k lo w (.slice none 0 0) [] := ⟨by simp [rowsG], .inl ⟨rfl, rfl⟩⟩
theorem OwG.non {lo : Nat} {w w' : World} {v : Value} {l : List α} (h : OwG T enc k lo w v l) (f : Fp Non w w') : OwG T enc k lo w' v l := f.owns h (fun _ _ h => h)
theorem OwG.lt {lo : Nat} {w : World} {v : Value} {l : List α} (h : OwG T enc k lo w v l) : ∀ j, v.ownBlock = some j → lo ≤ j ∧ j < w.heap.size := fun j hj => World.ownsRow.lt h j hj
theorem OwG.sg (hk : ∀ x, (enc x).length = k) {lo : Nat} {w : World} {v : Value} {l : List α} (h : OwG T enc k lo w v l) : Sg enc k w v l := by
 rcases h.2 with ⟨h0, h1⟩ | ⟨g, cap, cur, e, hb, hg, h1, h2, h3, h4⟩
 ·refine ⟨none, 0, ?_, ?_⟩
  ·rw [h1]; exact h0
  exact .inl (List.eq_nil_of_length_eq_zero h1)
 refine ⟨_, cap, e, .inr ⟨g, 0, rfl, fun i hi => ⟨fun j v hv => ?_⟩⟩⟩
 have hj : j < k := by rw [← hk l[i]]; exact (List.getElem?_eq_some_iff.1 hv).1
 rw [← rowsG_get hk l i j hi hj, ← h4] at hv
 rw [cell_of_row w g _ _ T (0, 0) hg, Nat.zero_add]
 rw [List.getElem?_take] at hv
 split at hv
 ·rw [← hv]; simp
 cases hv
theorem app_ownG (hk : ∀ x, (enc x).length = k) (h1 : ∀ x, ∀ u ∈ enc x, u.oneCell' = true) {SL : TypeId} {z : Value} {by_ : Nat} (hu : Tryz.prog.underlying SL = some (.slice T)) (hinf : (Tryz.prog.info? T).map (fun i => (i.zero, i.size, i.bytes)) = some (some z, k, by_)) (hz : z.cells.size = k) (hk0 : 0 < k) (hby : by_ ≤ 200)
  (w : World) (lo : Nat) (v : Value) (l m : List α) (ty : TypeId) (a : Addr) (n c : Nat) (hv : OwG T enc k lo w v l) (hn : n = m.length) (hx : ∀ i (h : i < m.length) j u, (enc m[i])[j]? = some u → w.cell? (a.add (i * k + j)) = some u) (h6 : l.length + m.length ≤ 100000) (hlo : lo ≤ w.heap.size) :
  ∃ v' w', (Builtin.append_ #[SL, SL] ty #[v, .slice (some a) n c]).run Tryz.prog w = .ok v' w' ∧ OwG T enc k lo w' v' (l ++ m) ∧ w.grownBy w' v.ownBlock ∧ ∀ j, v'.ownBlock = some j → v.ownBlock = some j ∨ w.heap.size ≤ j := by
 obtain ⟨i, hi, hz0, hsz, hb⟩ := info_parts hinf
 subst hn
 obtain ⟨v', w', hr, h4, h5, _, h8⟩ := run_append_own_at (P := Tryz.prog) w lo SL ty T i _ k by_ hu hi hz0 hsz hb hz hk0 v l.length (rowsG enc l) hv a m.length c (rowsG enc m) (rowsG_len hk m)
  (fun j u hu => by
   have hj : j < m.length * k := by rw [← rowsG_len hk]; exact (List.getElem?_eq_some_iff.1 hu).1
   have hd : j / k < m.length := Nat.div_lt_of_lt_mul (by rw [Nat.mul_comm]; exact hj)
   have hr : j % k < k := Nat.mod_lt _ hk0
   have e : j / k * k + j % k = j := Nat.div_add_mod' j k
   rw [← e, rowsG_get hk m (j / k) (j % k) hd hr] at hu
   have := hx (j / k) hd (j % k) u hu
   rwa [e] at this)
  (rowsG_one h1 m) (by unfold maxLen; omega) (Nat.le_trans (Nat.mul_le_mul h6 hby) (by decide)) hlo
 refine ⟨v', w', hr, ?_, h5, fun j hj => ?_⟩
 ·unfold OwG
  rw [rowsG_app, List.length_append]; exact h4
 rcases h8 with e | e
 ·exact .inl (by rw [← e]; exact hj)
 rw [hj] at e; injection e with e; exact .inr (by omega)
end
def pcC (x : Nat × Pt) : List Value := .int .i64 (x.1 : Int) :: ptC x.2
theorem ptC_len (x : Pt) : (ptC x).length = 7 := rfl
theorem pcC_len (x : Nat × Pt) : (pcC x).length = 8 := rfl
theorem ptC_one (x : Pt) : ∀ u ∈ ptC x, u.oneCell' = true := by
 intro u hu; simp only [ptC, List.mem_cons, List.not_mem_nil, or_false] at hu; rcases hu with rfl | rfl | rfl | rfl | rfl | rfl | rfl <;> rfl
theorem pcC_one (x : Nat × Pt) : ∀ u ∈ pcC x, u.oneCell' = true := by
 intro u hu; unfold pcC at hu; rcases List.mem_cons.1 hu with rfl | h
 ·rfl
 exact ptC_one x.2 u h
end Go.Proofs.YtphoglepiegeiaaGreatDoor
namespace Go.Proofs.YtphoglepiegeiaaGreatDoor
set_option maxRecDepth 20000
open Go.RowKit Pm
def Ow (lo : Nat) (w : World) (v : Value) (l : List Nd) : Prop := w.ownsRow lo TN 5 v l.length (rows l)
theorem Ow.ways {lo : Nat} {w : World} {v : Value} {l : List Nd} (h : Ow lo w v l) : (v = .slice none 0 0 ∧ l = []) ∨ ∃ G cap, v = .slice (some ⟨G, 0, none⟩) l.length cap ∧ Nr w G cap l ∧ lo ≤ G := by
 have h' := h
 unfold Ow at h'
 rcases h'.2 with ⟨h0, h1⟩ | ⟨g, cap, cur, e, hb, hg, h1, h2, h3, h4⟩
 ·refine .inl ⟨h0, ?_⟩
  cases l with
  | nil => rfl
  | cons x l => simp at h1
 refine .inr ⟨g, cap, e, ?_⟩
 unfold Ow at h
 rw [e] at h
 exact Nr.of_owns h rfl
theorem Ow.ns {lo : Nat} {w : World} {v : Value} {l : List Nd} (h : Ow lo w v l) : Ns w v l := by
 rcases h.ways with ⟨rfl, rfl⟩ | ⟨G, cap, rfl, h1, _⟩
 ·exact Ns.nil w
 exact h1.ns
theorem Ow.row {lo : Nat} {w : World} {G cap : Nat} {l : List Nd} (h : Nr w G cap l) (hlo : lo ≤ G) : Ow lo w (.slice (some ⟨G, 0, none⟩) l.length cap) l := h.owns hlo
theorem Ow.nil (lo : Nat) (w : World) : Ow lo w (.slice none 0 0) [] := ⟨rfl, .inl ⟨rfl, rfl⟩⟩
theorem Ow.keep {lo : Nat} {w w' : World} {v : Value} {l : List Nd} (h : Ow lo w v l) {S : Nat → Prop} (f : Fp S w w') (hS : ∀ k, v.ownBlock = some k → ¬ S k) : Ow lo w' v l := by
 rcases h.ways with ⟨rfl, rfl⟩ | ⟨G, cap, rfl, h1, h2⟩
 ·exact Ow.nil lo w'
 exact Ow.row (h1.keep f (hS G rfl)) h2
theorem Ow.non {lo : Nat} {w w' : World} {v : Value} {l : List Nd} (h : Ow lo w v l) (f : Fp Non w w') : Ow lo w' v l := h.keep f (fun _ _ h => h)
theorem Ow.low {lo : Nat} {w : World} {v : Value} {l : List Nd} (h : Ow lo w v l) : ∀ k, v.ownBlock = some k → lo ≤ k := by
 rcases h.ways with ⟨rfl, rfl⟩ | ⟨G, cap, rfl, _, h2⟩
 ·intro k hk; simp [Value.ownBlock] at hk
 intro k hk; simp [Value.ownBlock] at hk; omega
theorem app_own (w : World) (lo : Nat) (v : Value) (l m : List Nd) (ty : TypeId) (a : Addr) (n c : Nat) (hv : Ow lo w v l) (hn : n = m.length) (hx : ∀ i (h : i < m.length) j u, (ndC m[i])[j]? = some u → w.cell? (a.add (i * 5 + j)) = some u) (h6 : l.length + m.length ≤ 100000) (hlo : lo ≤ w.heap.size) :
  ∃ v' w', (Builtin.append_ #[TL, TL] ty #[v, .slice (some a) n c]).run Tryz.prog w = .ok v' w' ∧ Ow lo w' v' (l ++ m) ∧ w.grownBy w' v.ownBlock ∧ ∀ k, v'.ownBlock = some k → v.ownBlock = some k ∨ w.heap.size ≤ k := by
 obtain ⟨i, hi, hz, hsz, hby⟩ := info_parts Tryz.infoN
 subst hn
 obtain ⟨v', w', hr, h4, h5, _, h8⟩ := run_append_own_at (P := Tryz.prog) w lo TL ty TN i _ 5 56 Tryz.underlying22 hi hz hsz hby rfl (by decide) v l.length (rows l) hv a m.length c (rows m) (rows_len m)
  (fun j u hu => by
   have hj : j < m.length * 5 := by rw [← rows_len]; exact (List.getElem?_eq_some_iff.1 hu).1
   have hd : j / 5 < m.length := by omega
   have e : j / 5 * 5 + j % 5 = j := by omega
   rw [← e, rows_get m (j / 5) (j % 5) hd (by omega)] at hu
   have := hx (j / 5) hd (j % 5) u hu
   rwa [e] at this)
  (rows_one m) (by unfold maxLen; omega) (by omega) hlo
 refine ⟨v', w', hr, ?_, h5, fun k hk => ?_⟩
 ·unfold Ow
  rw [rows_app, List.length_append]; exact h4
 rcases h8 with e | e
 ·exact .inl (by rw [← e]; exact hk)
 rw [hk] at e; injection e with e; exact .inr (by omega)
structure OwR (w : World) (l : List Nd) (v' : Value) (w' : World) : Prop where
 own : Ow w.heap.size w' v' l
 fp : Fp Non w w'
set_option maxHeartbeats 2000000 in
theorem Clone_own (v : Value) (l : List Nd) (w : World) (hv : Ns w v l) (h5 : l.length ≤ 100000) :
  Calls Tryz.prog 55 #[v] w fun e w' => ∃ v', e = .returned v' ∧ OwR w l v' w' := by
 obtain ⟨ao, cap, rfl, h1, h2, h3⟩ := hv.ex
 cases ao with
 | none =>
  obtain rfl : l = [] := by
   rcases h3 with h | ⟨_, _, h, _⟩
   ·exact h
   cases h
  have hnil : ∀ w : World, (binOp .eql TL (.slice none 0 cap) (.slice none 0 0)).run Tryz.prog w = .ok (.bool true) w := fun w => Lib.run_eql_slice_nil w TL TN none 0 cap 0 0 Tryz.underlying22
  clear h1 h2 h3 hv h5
  simp only [List.length_nil]
  go_enter Tryz.func55, Tryz.ntmps55
  go_wp2
  go_ret
  exact ⟨_, rfl, Ow.nil _ _, Fp.refl _ _⟩
 | some a => ?_
 have hown : Ow w.heap.size (w.alloc (.cells #[] TN)) (.slice (some ⟨w.heap.size, 0, none⟩) 0 0) [] := World.ownsRow_lit w #[] 0 (Nat.le_refl _) (by unfold maxLen; omega) rfl
 have hx : ∀ i (h : i < l.length) j u, (ndC l[i])[j]? = some u → (w.alloc (.cells #[] TN)).cell? (a.add (i * 5 + j)) = some u := fun i hi j u hu => by
  rcases h3 with h | ⟨g, o, e, _, hc⟩
  ·subst h; simp at hi
  injection e with e; subst e
  have := ((hc i hi).keep ((Fp.refl Non w).alloc (.cells #[] TN)) id).get j u hu
  rw [Addr.add_lit] at this ⊢
  rwa [Nat.add_assoc] at this
 have hap : ∀ ty, ∃ v' w', (Builtin.append_ #[TL, TL] ty #[.slice (some ⟨w.heap.size, 0, none⟩) 0 0, .slice (some a) l.length cap]).run Tryz.prog (w.alloc (.cells #[] TN)) = .ok v' w' ∧ OwR w l v' w' := fun ty => by
  obtain ⟨v', w', hr, ho, hg, _⟩ := app_own (w.alloc (.cells #[] TN)) w.heap.size _ [] l ty a l.length cap hown rfl hx (by simp; omega) (by simp)
  exact ⟨v', w', hr, ho, ((Fp.refl Non w).alloc _).grown hg (fun k hk => .inr (by simp [Value.ownBlock] at hk; omega))⟩
 have hnil := nil_slice
 have HA2 := zI (hap TL)
 clear hap hown hx hv h1 h2 h3 h5
 generalize l.length = n at *
 go_enter Tryz.func55, Tryz.ntmps55
 go_wp2_with (at_builtin; go_must (refine wpList_app rfl _ _ _ _ rfl _ _ rfl rfl (OwR w l) HA2.out ?_))
 intro u w2 hR
 have HR := zI hR
 clear hR
 go_wp2
 go_ret
 exact ⟨_, rfl, HR.out⟩
structure ChR (lo : Nat) (w : World) (v : Value) (l : List Nd) (v' : Value) (w' : World) : Prop where
 own : Ow lo w' v' l
 fp : Fp (fun k => v.ownBlock = some k) w w'
 new : ∀ k, v'.ownBlock = some k → v.ownBlock = some k ∨ w.heap.size ≤ k
set_option maxHeartbeats 2000000 in
theorem Insert_own {lo : Nat} {w : World} {v : Value} {X : Nat} {l : List Nd} {x : Nd} (h : Ow lo w v l) (k : Nat) (hk : k ≤ l.length) (hX : w.heap[X]? = some (.cells (ndC x).toArray TN (0, 0))) (hne : v.ownBlock ≠ some X) (hl : l.length ≤ 4000) (hlo : lo ≤ w.heap.size) :
  Calls Tryz.prog 125 #[v, .int .i64 (k : Int), .slice (some ⟨X, 0, none⟩) 1 1] w fun e w' => ∃ v', e = .returned v' ∧ ChR lo w v (ins l k x) v' w' := by
 have hnd : NdAt w X 0 x := ⟨by rw [cell_of_row _ _ _ _ _ _ hX]; rfl, by rw [cell_of_row _ _ _ _ _ _ hX]; rfl, by rw [cell_of_row _ _ _ _ _ _ hX]; rfl, by rw [cell_of_row _ _ _ _ _ _ hX]; rfl, by rw [cell_of_row _ _ _ _ _ _ hX]; rfl⟩
 rcases h.ways with ⟨rfl, rfl⟩ | ⟨G, cap, rfl, h1, h2⟩
 ·obtain rfl : k = 0 := by simpa using hk
  have hap : ∀ ty, ∃ v' w', (Builtin.append_ #[TL, TL] ty #[.slice none 0 0, .slice (some ⟨X, 0, none⟩) 1 1]).run Tryz.prog w = .ok v' w' ∧ ChR lo w (.slice none 0 0) (ins [] 0 x) v' w' := fun ty => by
   obtain ⟨v', w', hr, ho, hg, hn8⟩ := app_own w lo (.slice none 0 0) [] [x] ty ⟨X, 0, none⟩ 1 1 h rfl (fun i hi j u hu => by
    have hi0 : i = 0 := by simp at hi; omega
    subst hi0
    have := hnd.get j u hu
    rwa [show 0 * 5 + j = j from by omega]) (by simp) hlo
   exact ⟨v', w', hr, ho, (Fp.refl _ w).grown hg (fun k hk => .inl hk), hn8⟩
  have HA := zI hap
  clear hap h hk hX hnd hl
  go_enter Tryz.func125, Tryz.ntmps125
  go_wp2_with (at_builtin; go_must (refine wpList_app rfl _ _ _ _ rfl _ _ rfl rfl (ChR lo w (.slice none 0 0) (ins [] 0 x)) (HA.out TL) ?_))
  all_goals
   intro v2 w2 hR2
   have HR := zI hR2
   clear hR2
   go_wp2
   go_ret
   exact ⟨_, rfl, HR.out⟩
 have hne' : X ≠ G := fun e => hne (by rw [e]; rfl)
 have hf : ∀ w', Fp (fun j => j = G) w w' → Fp (fun k => (Value.slice (some ⟨G, 0, none⟩) l.length cap).ownBlock = some k) w w' := fun w' f => f.mono (fun k hk => by rw [hk]; rfl)
 by_cases h0 : 0 < l.length
 ·refine (Insert_c h1 k hk hX hne' hl h0).mono ?_
  rintro e w' ⟨v', rfl, hR⟩
  obtain ⟨G', cap', rfl, a1, a2, a3⟩ := hR.ex
  refine ⟨_, rfl, ?_, hf w' a3, fun k hk => by rcases a2 with e | e <;> (simp only [Value.ownBlock, Option.some.injEq] at hk ⊢; omega)⟩
  have := Ow.row (lo := lo) a1 (by rcases a2 with e | e <;> omega)
  rwa [ins_length] at this
 obtain rfl : l = [] := List.eq_nil_of_length_eq_zero (by omega)
 obtain rfl : k = 0 := by simpa using hk
 have hap : ∀ ty, ∃ v' w', (Builtin.append_ #[TL, TL] ty #[.slice (some ⟨G, 0, none⟩) 0 cap, .slice (some ⟨X, 0, none⟩) 1 1]).run Tryz.prog w = .ok v' w' ∧ ChR lo w (.slice (some ⟨G, 0, none⟩) 0 cap) (ins [] 0 x) v' w' := fun ty => by
  obtain ⟨v', w', hr, ho, hg, hn8⟩ := app_own w lo (.slice (some ⟨G, 0, none⟩) 0 cap) [] [x] ty ⟨X, 0, none⟩ 1 1 h rfl (fun i hi j u hu => by
   have hi0 : i = 0 := by simp at hi; omega
   subst hi0
   have := hnd.get j u hu
   rwa [show 0 * 5 + j = j from by omega]) (by simp) hlo
  exact ⟨v', w', hr, ho, (Fp.refl _ w).grown hg (fun k hk => .inl hk), hn8⟩
 have HA := zI hap
 have hm := h1.most
 unfold maxLen at hm
 clear hap h hk hX hnd hl h1 hf h0
 simp only [List.length_nil]
 go_enter Tryz.func125, Tryz.ntmps125
 go_wp2_with (at_builtin; go_must (refine wpList_app rfl _ _ _ _ rfl _ _ rfl rfl (ChR lo w (.slice (some ⟨G, 0, none⟩) 0 cap) (ins [] 0 x)) (HA.out TL) ?_))
 all_goals
  intro v2 w2 hR2
  have HR := zI hR2
  clear hR2
  go_wp2
  go_ret
  exact ⟨_, rfl, HR.out⟩
abbrev TU : TypeId := 81
abbrev TUL : TypeId := 23
theorem insT_length (l : List Tu) (k : Nat) (x : Tu) : (insT l k x).length = l.length + 1 := by
 have := congrArg List.length (ins_tn l k x)
 rw [List.length_map, ins_length, List.length_map] at this; exact this
theorem placeT_of {l : List Tu} {p : Bs} {k : Nat} (hk : k ≤ l.length) (h1 : ∀ i (h : i < l.length), i < k → lt l[i].dir p = true) (h2 : ∀ i (h : i < l.length), k ≤ i → lt l[i].dir p = false) : placeT l p = k := by
 rw [← place_tn]
 exact place_of (by simpa using hk) (fun i h hi => by rw [List.getElem_map]; exact h1 i (by simpa using h) hi) (fun i h hi => by rw [List.getElem_map]; exact h2 i (by simpa using h) hi)
theorem findT_place {l : List Tu} (ha : AscT l) (p : Bs) : findT l p = if h : placeT l p < l.length then (if (l[placeT l p]).dir = p then some l[placeT l p] else none) else none := by
 have h := find_place (ascT_iff.1 ha) p
 rw [find_tn] at h
 have inj : ∀ {a b : Option Tu}, a.map tn = b.map tn → a = b := fun {a b} e => by
  cases a <;> cases b <;> first | rfl | (cases e; done) | (exact congrArg some (tn_inj (Option.some.inj e)))
 apply inj
 rw [h]
 have hp := place_tn l p
 by_cases hl : placeT l p < l.length
 ·rw [dif_pos hl, dif_pos (by rw [hp, List.length_map]; exact hl)]
  have e : (l.map tn)[place (l.map tn) p]'(by rw [hp, List.length_map]; exact hl) = tn l[placeT l p] := by
   simp only [hp, List.getElem_map]
  rw [e]
  show (if (l[placeT l p]).dir = p then some (tn l[placeT l p]) else none) = _
  split <;> rfl
 rw [dif_neg hl, dif_neg (by rw [hp, List.length_map]; exact hl)]; rfl
def tuC (n : Tu) : List Value := [strV n.dir, .int .i64 n.next]
def tuV (n : Tu) : Value := .agg #[strV n.dir, .int .i64 n.next]
def rowsT (l : List Tu) : List Value := l.flatMap tuC
theorem tuC_len (n : Tu) : (tuC n).length = 2 := rfl
theorem rowsT_cons (n : Tu) (l : List Tu) : rowsT (n :: l) = tuC n ++ rowsT l := by simp [rowsT]
theorem rowsT_app (a b : List Tu) : rowsT (a ++ b) = rowsT a ++ rowsT b := by simp [rowsT]
theorem rowsT_len (l : List Tu) : (rowsT l).length = l.length * 2 := by
 induction l with
 | nil => rfl
 | cons n l ih => rw [rowsT_cons, List.length_append, tuC_len, ih, List.length_cons]; omega
theorem rowsT_get (l : List Tu) (i j : Nat) (hi : i < l.length) (hj : j < 2) : (rowsT l)[i * 2 + j]? = (tuC l[i])[j]? := by
 induction l generalizing i with
 | nil => simp at hi
 | cons n l ih =>
  rw [rowsT_cons]
  cases i with
  | zero => rw [List.getElem?_append_left (by rw [tuC_len]; omega)]; simp
  | succ i => ?_
  rw [List.getElem?_append_right (by rw [tuC_len]; omega), tuC_len, show (i + 1) * 2 + j - 2 = i * 2 + j from by omega, ih i (by simpa using hi)]
  simp
theorem rowsT_one (l : List Tu) : ∀ u ∈ rowsT l, u.oneCell' = true := by
 intro u hu
 unfold rowsT at hu
 rw [List.mem_flatMap] at hu
 obtain ⟨n, _, hu⟩ := hu
 simp only [tuC, List.mem_cons, List.not_mem_nil, or_false] at hu
 rcases hu with rfl | rfl <;> rfl
theorem rowsT_take (l : List Tu) (k : Nat) : (rowsT l).take (k * 2) = rowsT (l.take k) := by
 induction l generalizing k with
 | nil => simp [rowsT]
 | cons n l ih =>
  cases k with
  | zero => simp [rowsT]
  | succ k => rw [List.take_succ_cons, rowsT_cons, rowsT_cons, ← ih, List.take_append, tuC_len, List.take_of_length_le (by rw [tuC_len]; omega), show (k + 1) * 2 - 2 = k * 2 from by omega]
structure TuAt (w : World) (g o : Nat) (n : Tu) : Prop where
 c0 : w.cell? ⟨g, o, none⟩ = some (strV n.dir)
 c1 : w.cell? ⟨g, o + 1, none⟩ = some (.int .i64 n.next)
theorem TuAt.keep {w w' : World} {g o : Nat} {n : Tu} (h : TuAt w g o n) {S : Nat → Prop} (f : Fp S w w') (hS : ¬ S g) : TuAt w' g o n :=
 ⟨f.cell h.c0 hS, f.cell h.c1 hS⟩
theorem TuAt.get {w : World} {g o : Nat} {n : Tu} (h : TuAt w g o n) : ∀ j v, (tuC n)[j]? = some v → w.cell? ((⟨g, o, none⟩ : Addr).add j) = some v := by
 intro j v hv
 rw [Addr.add_lit]
 match j, hv with
 | 0, hv => rw [← Option.some.inj hv]; exact h.c0
 | 1, hv => rw [← Option.some.inj hv]; exact h.c1
 | j + 2, hv => simp [tuC] at hv
structure Ts (w : World) (v : Value) (l : List Tu) : Prop where
 ex : ∃ ao cap, v = .slice ao l.length cap ∧ l.length ≤ cap ∧ cap ≤ maxLen ∧ (l = [] ∨ ∃ g o, ao = some ⟨g, o, none⟩ ∧ g < w.heap.size ∧ ∀ i (h : i < l.length), TuAt w g (o + i * 2) l[i])
theorem Ts.keep {w w' : World} {v : Value} {l : List Tu} (h : Ts w v l) {S : Nat → Prop} (f : Fp S w w') (hS : ∀ k, v.ownBlock = some k → ¬ S k) : Ts w' v l := by
 obtain ⟨ao, cap, rfl, h1, h2, h3⟩ := h.ex
 refine ⟨ao, cap, rfl, h1, h2, ?_⟩
 rcases h3 with h3 | ⟨g, o, rfl, hg, hc⟩
 ·exact .inl h3
 exact .inr ⟨g, o, rfl, Nat.lt_of_lt_of_le hg f.size, fun i hi => (hc i hi).keep f (hS g rfl)⟩
theorem Ts.non {w w' : World} {v : Value} {l : List Tu} (h : Ts w v l) (f : Fp Non w w') : Ts w' v l := h.keep f (fun _ _ h => h)
theorem Ts.nil (w : World) : Ts w (.slice none 0 0) [] := ⟨none, 0, rfl, Nat.le_refl _, Nat.zero_le _, .inl rfl⟩
theorem Ts.shape {w : World} {v : Value} {l : List Tu} (h : Ts w v l) : ∃ ao cap, v = .slice ao l.length cap := by
 obtain ⟨ao, cap, rfl, _⟩ := h.ex; exact ⟨ao, cap, rfl⟩
theorem Ts.at {w : World} {v : Value} {l : List Tu} (h : Ts w v l) (h0 : 0 < l.length) : ∃ g o cap, v = .slice (some ⟨g, o, none⟩) l.length cap ∧ l.length ≤ cap ∧ cap ≤ maxLen ∧ g < w.heap.size ∧ ∀ i (h : i < l.length), TuAt w g (o + i * 2) l[i] := by
 obtain ⟨ao, cap, rfl, h1, h2, h3⟩ := h.ex
 rcases h3 with h3 | ⟨g, o, rfl, hg, hc⟩
 ·subst h3; simp at h0
 exact ⟨g, o, cap, rfl, h1, h2, hg, hc⟩
structure Tr2 (w : World) (g cap : Nat) (l : List Tu) : Prop where
 ex : ∃ rest, w.heap[g]? = some (.cells (rowsT l ++ rest).toArray TU (0, 0)) ∧ l.length * 2 + rest.length = cap * 2
 room : l.length ≤ cap
 most : cap ≤ maxLen
theorem Tr2.lt {w : World} {g cap : Nat} {l : List Tu} (h : Tr2 w g cap l) : g < w.heap.size := by
 obtain ⟨r, h, _⟩ := h.ex; exact (Array.getElem?_eq_some_iff.1 h).1
theorem Tr2.keep {w w' : World} {g cap : Nat} {l : List Tu} (h : Tr2 w g cap l) {S : Nat → Prop} (f : Fp S w w') (hS : ¬ S g) : Tr2 w' g cap l := by
 obtain ⟨r, h1, h2⟩ := h.ex; exact ⟨⟨r, f.heap h1 hS, h2⟩, h.room, h.most⟩
theorem Tr2.cell {w : World} {g cap : Nat} {l : List Tu} (h : Tr2 w g cap l) (i j : Nat) (hi : i < l.length) (hj : j < 2) : w.cell? ⟨g, i * 2 + j, none⟩ = (tuC l[i])[j]? := by
 obtain ⟨r, h1, _⟩ := h.ex
 rw [cell_of_row w g _ _ TU (0, 0) h1]
 simp only [List.getElem?_toArray]
 rw [List.getElem?_append_left (by rw [rowsT_len]; omega), rowsT_get l i j hi hj]
theorem Tr2.nd {w : World} {g cap : Nat} {l : List Tu} (h : Tr2 w g cap l) (i : Nat) (hi : i < l.length) : TuAt w g (0 + i * 2) l[i] := by
 rw [Nat.zero_add]
 exact ⟨h.cell i 0 hi (by omega), h.cell i 1 hi (by omega)⟩
theorem Tr2.ns {w : World} {g cap : Nat} {l : List Tu} (h : Tr2 w g cap l) : Ts w (.slice (some ⟨g, 0, none⟩) l.length cap) l :=
 ⟨_, cap, rfl, h.room, h.most, .inr ⟨g, 0, rfl, h.lt, h.nd⟩⟩
theorem Tr2.frozen {w : World} {g cap : Nat} {l : List Tu} (h : Tr2 w g cap l) (o : Nat) : w.frozen? ⟨g, o, none⟩ = false := by
 obtain ⟨r, h1, _⟩ := h.ex; simp [World.frozen?, h1]
theorem Tr2.owns {w : World} {g cap : Nat} {l : List Tu} (h : Tr2 w g cap l) {lo : Nat} (hlo : lo ≤ g) : w.ownsRow lo TU 2 (.slice (some ⟨g, 0, none⟩) l.length cap) l.length (rowsT l) := by
 obtain ⟨r, h1, h2⟩ := h.ex
 refine ⟨rowsT_len l, .inr ⟨g, cap, _, rfl, hlo, h1, h.room, h.most, by simp [rowsT_len]; omega, ?_⟩⟩
 simp only
 rw [← rowsT_len l]; exact List.take_left
theorem Tr2.of_owns {w : World} {lo g cap n : Nat} {l : List Tu} (h : w.ownsRow lo TU 2 (.slice (some ⟨g, 0, none⟩) n cap) n (rowsT l)) (hn : n = l.length) : Tr2 w g cap l ∧ lo ≤ g := by
 subst hn
 rcases h.2 with ⟨h0, _⟩ | ⟨g', cap', cur, e, hb, hg, h1, h2, h3, h4⟩
 ·cases h0
 injection e with e1 _ e3
 injection e1 with e1
 injection e1 with e1
 subst e1 e3
 refine ⟨⟨⟨cur.toList.drop (l.length * 2), ?_, ?_⟩, h1, h2⟩, hb⟩
 ·rw [← h4, List.take_append_drop]; exact hg
 have e : cur.toList.length = cap * 2 := by rw [Array.length_toList, h3]
 rw [List.length_drop, e]; omega
theorem Tryz.infoU : (Tryz.prog.info? TU).map (fun i => (i.zero, i.size, i.bytes)) = some (some (.agg #[.string ⟨#[]⟩, .int .i64 0]), 2, 24) := by kernel_rfl
theorem szU (w : World) : (sizeOf TU).run Tryz.prog w = .ok 2 w := by
 obtain ⟨i, hi, _, hs, _⟩ := info_parts Tryz.infoU
 simp [sizeOf, typeInfo, hi, hs]
theorem run_copy_turns (w : World) (ty : TypeId) (g o dLen dCap : Nat) (a : Addr) (sLen sCap : Nat) (cur : List Value) (m : Nat) (cs : List Value) (hg : w.heap[g]? = some (.cells cur.toArray TU (0, 0))) (hm : m = Nat.min sLen dLen) (hn : cs.length = m * 2)
  (hsrc : ∀ j v, cs[j]? = some v → w.cell? (a.add j) = some v) (hfit : o + cs.length ≤ cur.length) (h1 : ∀ v ∈ cs, v.oneCell' = true) :
  (Builtin.copy_ #[TUL, TUL] ty #[.slice (some ⟨g, o, none⟩) dLen dCap, .slice (some a) sLen sCap]).run Tryz.prog w = .ok (goInt m) (w.setRow g (cur.take o ++ cs ++ cur.drop (o + cs.length)).toArray) := by
 have hl := run_loadCells_list (P := Tryz.prog) w a cs hsrc
 have hst := run_storeCells_at Tryz.prog g o TU cs 0 cur.toArray w hg (by simpa using hfit) h1
 rw [hn] at hl
 simp [Builtin.copy_, run_underlying Tryz.underlying23, Builtin.lenOf, Builtin.firstCells, ← hm, hl, hst]
theorem run_clear_turns (w : World) (ty : TypeId) (g o n c : Nat) (cur : List Value) (hg : w.heap[g]? = some (.cells cur.toArray TU (0, 0))) (hfit : o + n * 2 ≤ cur.length) (h0 : 0 < n) :
  ∃ zs : List Value, zs.length = n * 2 ∧ (Builtin.clear_ #[TUL] ty #[.slice (some ⟨g, o, none⟩) n c]).run Tryz.prog w = .ok (.tuple #[]) (w.setRow g (cur.take o ++ zs ++ cur.drop (o + n * 2)).toArray) := by
 refine ⟨(Builtin.zeroCells #[.string ⟨#[]⟩, .int .i64 0] n).toList, by simp [size_zeroCells], ?_⟩
 have hst := run_storeCells_at Tryz.prog g o TU (Builtin.zeroCells #[.string ⟨#[]⟩, .int .i64 0] n).toList 0 cur.toArray w hg (by simpa [size_zeroCells] using hfit) (by
  intro v hv
  simp only [Builtin.zeroCells, Array.toList_map, List.mem_map, Array.toList_range] at hv
  obtain ⟨i, _, rfl⟩ := hv
  have : i % 2 < 2 := Nat.mod_lt _ (by omega)
  generalize i % 2 = k at this
  match k, this with
  | 0, _ => rfl
  | 1, _ => rfl)
 obtain ⟨m, rfl⟩ : ∃ m, n = m + 1 := ⟨n - 1, by omega⟩
 simp [size_zeroCells] at hst
 simp [Builtin.clear_, run_underlying Tryz.underlying23, Value.cells, hst]
theorem app_turns (w : World) (lo : Nat) (v : Value) (l m : List Tu) (ty : TypeId) (g o n c : Nat) (hv : w.ownsRow lo TU 2 v l.length (rowsT l)) (hn : n = m.length) (hx : ∀ i (h : i < m.length), TuAt w g (o + i * 2) m[i]) (h6 : l.length + m.length ≤ 100000) (hlo : lo ≤ w.heap.size) (h0 : 0 < l.length + m.length) :
  ∃ G cap w', (Builtin.append_ #[TUL, TUL] ty #[v, .slice (some ⟨g, o, none⟩) n c]).run Tryz.prog w = .ok (.slice (some ⟨G, 0, none⟩) (l.length + m.length) cap) w' ∧ Tr2 w' G cap (l ++ m) ∧ lo ≤ G ∧ w.grownBy w' v.ownBlock ∧ (v.ownBlock = some G ∨ w.heap.size ≤ G) := by
 obtain ⟨i, hi, hz, hsz, hby⟩ := info_parts Tryz.infoU
 subst hn
 obtain ⟨v', w', hr, h4, h5, h7, h8⟩ := run_append_own_at (P := Tryz.prog) w lo TUL ty TU i _ 2 24 Tryz.underlying23 hi hz hsz hby rfl (by decide) v l.length (rowsT l) hv ⟨g, o, none⟩ m.length c (rowsT m) (rowsT_len m)
  (fun j u hu => by
   have hj : j < m.length * 2 := by rw [← rowsT_len]; exact (List.getElem?_eq_some_iff.1 hu).1
   have hd : j / 2 < m.length := by omega
   have e : j / 2 * 2 + j % 2 = j := by omega
   rw [← e, rowsT_get m (j / 2) (j % 2) hd (by omega)] at hu
   have := (hx (j / 2) hd).get (j % 2) u hu
   rw [Addr.add_lit] at this ⊢
   rwa [show o + j / 2 * 2 + j % 2 = o + j from by omega] at this)
  (rowsT_one m) (by unfold maxLen; omega) (by omega) hlo
 have hne : v' ≠ .slice none 0 0 := fun e => by
  obtain ⟨e1, e2⟩ := h7.1 e
  subst e1
  rcases hv.2 with ⟨_, h⟩ | ⟨_, _, _, h, _⟩
  ·omega
  cases h
 rcases h4.2 with ⟨h9, _⟩ | ⟨G, cap, cur, rfl, hb, hg, r1, r2, r3, r4⟩
 ·exact absurd h9 hne
 rw [← rowsT_app] at h4
 obtain ⟨h10, h11⟩ := Tr2.of_owns h4 (by rw [List.length_append])
 refine ⟨G, cap, w', hr, h10, h11, h5, ?_⟩
 rcases h8 with h8 | h8
 ·exact .inl h8.symm
 right; simp [Value.ownBlock] at h8; omega
structure CopT (G cap : Nat) (cur : List Value) (w w' : World) : Prop where
 hp : w'.heap[G]? = some (.cells cur.toArray TU (0, 0))
 len : cur.length = cap * 2
 fp : Fp (fun k => k = G) w w'
theorem copyT_at {w : World} {G cap : Nat} {cur : List Value} (hg : w.heap[G]? = some (.cells cur.toArray TU (0, 0))) (hl : cur.length = cap * 2) (ty : TypeId) (o dLen dCap : Nat) (a : Addr) (sLen sCap : Nat) (l : List Tu) (hm : l.length = Nat.min sLen dLen)
  (hsrc : ∀ i (h : i < l.length) j v, (tuC l[i])[j]? = some v → w.cell? (a.add (i * 2 + j)) = some v) (hfit : o + l.length * 2 ≤ cap * 2) :
  ∃ v' w', (Builtin.copy_ #[TUL, TUL] ty #[.slice (some ⟨G, o, none⟩) dLen dCap, .slice (some a) sLen sCap]).run Tryz.prog w = .ok v' w' ∧ CopT G cap (cur.take o ++ rowsT l ++ cur.drop (o + l.length * 2)) w w' := by
 have h := run_copy_turns w ty G o dLen dCap a sLen sCap cur l.length (rowsT l) hg hm (rowsT_len l) (fun j v hv => by
  have hj : j < l.length * 2 := by rw [← rowsT_len]; exact (List.getElem?_eq_some_iff.1 hv).1
  have hd : j / 2 < l.length := by omega
  have e : j / 2 * 2 + j % 2 = j := by omega
  rw [← e, rowsT_get l (j / 2) (j % 2) hd (by omega)] at hv
  have := hsrc (j / 2) hd (j % 2) v hv
  rwa [e] at this) (by rw [rowsT_len, hl]; exact hfit) (rowsT_one l)
 rw [rowsT_len] at h
 refine ⟨_, _, h, setRow_heap w G _ _ TU _ hg, ?_, fp_setRow w G _⟩
 simp only [List.length_append, List.length_take, List.length_drop, rowsT_len, hl]
 omega
theorem Tr2.src {w : World} {G cap : Nat} {l : List Tu} (h : Tr2 w G cap l) (k : Nat) : ∀ i (hi : i < (l.drop k).length) j v, (tuC (l.drop k)[i])[j]? = some v → w.cell? ((⟨G, k * 2, none⟩ : Addr).add (i * 2 + j)) = some v := by
 intro i hi j v hv
 rw [List.length_drop] at hi
 rw [List.getElem_drop] at hv
 have hj : j < 2 := by have := (List.getElem?_eq_some_iff.1 hv).1; simpa [tuC] using this
 rw [Addr.add_lit, show k * 2 + (i * 2 + j) = (k + i) * 2 + j from by omega, h.cell (k + i) j (by omega) hj, hv]
theorem insT_cells (l : List Tu) (k : Nat) (hk : k ≤ l.length) (x : Tu) (cur : List Value) (h1 : cur.take (k * 2) = rowsT (l.take k)) (h2 : (l.length + 1) * 2 ≤ cur.length) :
  ∃ rest, ((cur.take ((k + 1) * 2) ++ rowsT (l.drop k) ++ cur.drop ((k + 1) * 2 + (l.drop k).length * 2)).take (k * 2) ++ rowsT [x] ++ (cur.take ((k + 1) * 2) ++ rowsT (l.drop k) ++ cur.drop ((k + 1) * 2 + (l.drop k).length * 2)).drop (k * 2 + [x].length * 2)) = rowsT (insT l k x) ++ rest ∧
   (l.length + 1) * 2 + rest.length = cur.length := by
 refine ⟨cur.drop ((k + 1) * 2 + (l.drop k).length * 2), ?_, ?_⟩
 ·have e1 : (cur.take ((k + 1) * 2)).length = (k + 1) * 2 := by rw [List.length_take]; omega
  have e2 : (cur.take ((k + 1) * 2) ++ rowsT (l.drop k) ++ cur.drop ((k + 1) * 2 + (l.drop k).length * 2)).take (k * 2) = rowsT (l.take k) := by
   rw [List.append_assoc, List.take_append_of_le_length (by rw [e1]; omega), List.take_take, Nat.min_eq_left (by omega), h1]
  have e3 : (cur.take ((k + 1) * 2) ++ rowsT (l.drop k) ++ cur.drop ((k + 1) * 2 + (l.drop k).length * 2)).drop (k * 2 + [x].length * 2) = rowsT (l.drop k) ++ cur.drop ((k + 1) * 2 + (l.drop k).length * 2) := by
   rw [List.append_assoc, List.drop_append, List.drop_of_length_le (by rw [e1]; simp; omega), e1, show k * 2 + [x].length * 2 - (k + 1) * 2 = 0 from by simp; omega]
   rfl
  rw [e2, e3, insT, rowsT_app]
  simp [rowsT, List.append_assoc]
 simp only [List.length_drop]; omega
set_option maxHeartbeats 4000000 in
theorem InsertT_mid {w : World} {G cap X : Nat} {l : List Tu} {x : Tu} (h : Tr2 w G cap l) (k : Nat) (hk : k < l.length) (hroom : l.length + 1 ≤ cap) (hX : TuAt w X 0 x) (hne : X ≠ G) (hl : l.length ≤ 4000) (hfr : w.heap[X]? = some (.cells (tuC x).toArray TU (0, 0))) :
  Calls Tryz.prog 167 #[.slice (some ⟨G, 0, none⟩) l.length cap, .int .i64 (k : Int), .slice (some ⟨X, 0, none⟩) 1 1] w fun e w' => e = .returned (.slice (some ⟨G, 0, none⟩) (l.length + 1) cap) ∧ Tr2 w' G cap (insT l k x) ∧ Fp (fun j => j = G) w w' := by
 have hm := h.most
 unfold maxLen at hm
 obtain ⟨n, hn⟩ : ∃ n, n = l.length := ⟨_, rfl⟩
 have q1 : ((k : Int) == (n : Int)) = false := beq_eq_false_iff_ne.2 (by omega)
 have q2 : ((cap : Int) < (n : Int) + 1) = False := eq_false (by omega)
 have hkn : k < n := by omega
 have hn6 : n ≤ 4000 := by omega
 have hcn : n + 1 ≤ cap := by omega
 have wk : IntKind.i64.wrap ((k : Int) + 1) = ((k + 1 : Nat) : Int) := by rw [IntKind.wrap_i64]; omega
 have r1 : (cap = k + 1) = False := eq_false (by omega)
 have r2 : (cap = k) = False := eq_false (by omega)
 have r3 : (((k + 1 : Nat) : Int) ≤ (n : Int) + 1) = True := eq_true (by omega)
 have r4 : (k ≤ n) = True := eq_true (by omega)
 have r5 : ((0 : Int) ≤ ((k + 1 : Nat) : Int)) = True := eq_true (by omega)
 have r7 : ((k : Int) ≤ (n : Int) + 1) = True := eq_true (by omega)
 have r6 : ((0 : Int) ≤ (k : Int) + 1) = True := eq_true (by omega)
 have e5 : n + 1 - (k + 1) = n - k := by omega
 obtain ⟨rest, hgr, hrl⟩ := h.ex
 have hd : Tr2 w.drew G cap l := h.keep ((Fp.refl Non w).drew) id
 have hlc : (rowsT l ++ rest).length = cap * 2 := by rw [List.length_append, rowsT_len]; omega
 have hc1 : ∀ ty, ∃ v' w', (Builtin.copy_ #[TUL, TUL] ty #[.slice (some ⟨G, (k + 1) * 2, none⟩) (n - k) (cap - (k + 1)), .slice (some ⟨G, k * 2, none⟩) (n + 1 - k) (cap - k)]).run Tryz.prog w.drew = .ok v' w' ∧ CopT G cap ((rowsT l ++ rest).take ((k + 1) * 2) ++ rowsT (l.drop k) ++ (rowsT l ++ rest).drop ((k + 1) * 2 + (l.drop k).length * 2)) w.drew w' := fun ty =>
  copyT_at (w := w.drew) hgr hlc ty ((k + 1) * 2) (n - k) (cap - (k + 1)) ⟨G, k * 2, none⟩ (n + 1 - k) (cap - k) (l.drop k) (by rw [List.length_drop, ← hn]; simp only [Nat.min_def]; split <;> omega) (hd.src k) (by rw [List.length_drop]; omega)
 have HC1 := zI hc1
 have HX := zI (yI hX hne)
 have HX2 := zI (yI (show (rowsT l ++ rest).take (k * 2) = rowsT (l.take k) by rw [List.take_append_of_le_length (by rw [rowsT_len]; omega), rowsT_take]) (show (l.length + 1) * 2 ≤ (rowsT l ++ rest).length by rw [hlc]; omega))
 have HX3 := zI (yI hlc h.most)
 have hov : ∀ o lb cb, (callFunc 184 #[.slice (some ⟨X, 0, none⟩) 1 1, .slice (some ⟨G, o, none⟩) lb cb]).run Tryz.prog w = .ok (.value (.bool false)) w := fun o lb cb => by
  obtain ⟨r, hg, hr⟩ := h.ex
  rw [run_callFunc_extern Tryz.func184 (by kernel_rfl) (by kernel_rfl) (by kernel_rfl) (e := Extern.SlicesOverlaps.overlaps #[TUL, TUL] #[4]) (by kernel_rfl),
   Lib.run_overlaps_apart w TUL 4 TU Tryz.underlying23 2 szU ⟨X, 0, none⟩ ⟨G, o, none⟩ 1 1 lb cb hne TU TU 2 (cap * 2) (by simp [World.shape?, hfr, tuC]) (by simp [World.shape?, hg, rowsT_len]; omega) (by omega) (by simp [World.frozen?, hfr]) (by simp [World.frozen?, hfr])]
  rfl
 rw [← hn]
 have HN := zI hn
 clear hn
 go_enter Tryz.func167, Tryz.ntmps167
 clear h hX hfr hc1 hd hlc hgr hrl
 go_wp2_with (simp only [hov])
 go_region_law ((refine step_copy rfl _ _ TUL TUL rfl (.slice (some ⟨G, (k + 1) * 2, none⟩) (n - k) (cap - (k + 1))) (.slice (some ⟨G, k * 2, none⟩) (n + 1 - k) (cap - k)) (by simp [Act.eval, Act.put]) (by simp [Act.eval, Act.put]) (fun _ w' => CopT G cap _ w.drew w') (HC1.out _) ?_; intro v1 w1 hR1))
 have hX1 : TuAt w1 X 0 x := (HX.out.1.keep ((Fp.refl Non w).drew) id).keep hR1.fp HX.out.2
 have hc2 := fun ty => copyT_at hR1.hp hR1.len ty (k * 2) (n + 1 - k) (cap - k) ⟨X, 0, none⟩ 1 1 [x] (by simp only [Nat.min_def, List.length_cons, List.length_nil]; split <;> omega) (fun i hi j v hv => by
  have hi0 : i = 0 := by simp at hi; omega
  subst hi0
  have := hX1.get j v hv
  rwa [show 0 * 2 + j = j from by omega]) (by simp; omega)
 have HC2 := zI hc2
 have HF1 := zI (((Fp.refl Non w).drew.any (S := fun j => j = G)).same hR1.fp)
 clear hR1 hX1 hc2
 go_wp2_with fail
 obtain ⟨v2, w2, hr, hR2⟩ := HC2.out 3
 rw [hr]
 simp only [Result.andThen]
 rw [Oper.upon_value]
 clear hr
 obtain ⟨rest2, he, hl2⟩ := insT_cells l k (by have := HN.out; omega) x (rowsT l ++ rest) HX2.out.1 HX2.out.2
 have hrow : Tr2 w2 G cap (insT l k x) := by
  refine ⟨⟨rest2, ?_, ?_⟩, ?_, HX3.out.2⟩
  ·have := hR2.hp; rw [he] at this; exact this
  ·rw [insT_length]; have := HX3.out.1; omega
  rw [insT_length]; have := HN.out; omega
 have HR := zI (yI hrow (HF1.out.same hR2.fp))
 clear hR2 he hl2 hrow
 go_wp2
 go_ret
 exact ⟨rfl, HR.out.1, HR.out.2⟩
end Go.Proofs.YtphoglepiegeiaaGreatDoor
