/- A text of this proof. -/
import Derived.Test.YtphoglepiegeiaaGreatDoorZAD
import Derived.Test.YtphoglepiegeiaaGreatDoorZAH
import Derived.Test.YtphoglepiegeiaaGreatDoorZAK
namespace Go.Proofs.YtphoglepiegeiaaGreatDoor
set_option linter.unusedSimpArgs false
set_option linter.unusedVariables false
set_option maxRecDepth 20000
set_option linter.unusedVariables false
set_option linter.unusedSimpArgs false
open Go.RowKit Pm
abbrev TP : TypeId := 27
def ptC (x : Pt) : List Value := [.int .i64 x.kind, strV x.dir, strV x.path, strV x.data, .int .i64 x.ver, .int .i64 x.own, .bool x.turns]
def ptV (x : Pt) : Value := .agg #[.int .i64 x.kind, strV x.dir, strV x.path, strV x.data, .int .i64 x.ver, .int .i64 x.own, .bool x.turns]
theorem boxP7 {w : World} {b : Nat} {T : TypeId} {c0 c1 c2 c3 c4 c5 c6 : Value} (h : w.heap[b]? = some (.cells #[c0, c1, c2, c3, c4, c5, c6] T (0, 0))) :
  w.cell? ⟨b, 0, none⟩ = some c0 ∧ w.cell? ⟨b, 1, none⟩ = some c1 ∧ w.cell? ⟨b, 2, none⟩ = some c2 ∧ w.cell? ⟨b, 3, none⟩ = some c3 ∧ w.cell? ⟨b, 4, none⟩ = some c4 ∧ w.cell? ⟨b, 5, none⟩ = some c5 ∧ w.cell? ⟨b, 6, none⟩ = some c6 :=
 ⟨by rw [cell_of_row _ _ _ _ _ _ h]; rfl, by rw [cell_of_row _ _ _ _ _ _ h]; rfl, by rw [cell_of_row _ _ _ _ _ _ h]; rfl, by rw [cell_of_row _ _ _ _ _ _ h]; rfl, by rw [cell_of_row _ _ _ _ _ _ h]; rfl, by rw [cell_of_row _ _ _ _ _ _ h]; rfl, by rw [cell_of_row _ _ _ _ _ _ h]; rfl⟩
theorem boxP3 {w : World} {b : Nat} {T : TypeId} {c0 c1 c2 c3 c4 c5 c6 : Value} (h : w.heap[b]? = some (.cells #[c0, c1, c2, c3, c4, c5, c6] T (0, 0))) :
  w.cell? ⟨b, 0, none⟩ = some c0 ∧ w.cell? ⟨b, 1, none⟩ = some c1 ∧ w.cell? ⟨b, 2, none⟩ = some c2 := ⟨(boxP7 h).1, (boxP7 h).2.1, (boxP7 h).2.2.1⟩
set_option maxHeartbeats 8000000 in
theorem mayP_c (x : Pt) (w : World) (hl : x.path.length ≤ 1000000) :
  Calls Tryz.prog 21 #[ptV x] w fun e w' => e = .returned (.bool (mayP x)) ∧ Fp Non w w' := by
 have hri := fun w => Right_g x.path w (sz_of hl (by omega))
 have hke := fun w => keptAt_c x.kind x.path w hl
 obtain ⟨k, d, p, da, v, o, t⟩ := x
 obtain ⟨sp, hsp⟩ : ∃ b, (split p).isSome = b := ⟨_, rfl⟩
 obtain ⟨kp, hkp⟩ : ∃ b, keptAt k p = b := ⟨_, rfl⟩
 simp only at hri hke
 rw [hsp] at hri
 rw [hkp] at hke
 obtain ⟨b1, h1⟩ : ∃ r, decide ((-1 : Int) ≤ v ∧ v ≤ 281474976710656) = r := ⟨_, rfl⟩
 obtain ⟨b3, h3⟩ : ∃ r, decide ((0 : Int) ≤ o ∧ o ≤ 1099511627776) = r := ⟨_, rfl⟩
 obtain ⟨n, hn⟩ : ∃ n, n = da.length := ⟨_, rfl⟩
 have W1 := Lib.hid (fun w => withinP_d v (-1) 281474976710656 w b1 h1)
 have W3 := Lib.hid (fun w => withinP_d o 0 1099511627776 w b3 h3)
 obtain ⟨r, hr⟩ : ∃ r, mayP ⟨k, d, p, da, v, o, t⟩ = r := ⟨_, rfl⟩
 have key : r = (decide (1 ≤ k) && decide (k ≤ 10) && sp && decide (d = kp) && !(decide (k = 2) && decide (p = [47])) && decide (n ≤ 256) && b1 && b3) := by
  rw [← hr, ← hsp, ← h1, ← h3, hn, ← hkp]
  by_cases a1 : p = [47] <;> by_cases a2 : k = 2 <;> (rw [Bool.eq_iff_iff, mayP_iff]; simp [a1, a2, and_assoc])
 have HR := Lib.hid hri
 have HKE := Lib.hid hke
 have HFin := Lib.hid (show ∀ c : Bool, (decide (1 ≤ k) && decide (k ≤ 10) && sp && decide (d = kp) && !(decide (k = 2) && decide (p = [47])) && decide (n ≤ 256) && b1 && b3) = c → r = c from fun c h => by rw [key, h])
 rw [hr]
 have hf0 := fp_alloc w (.cells #[.int .i64 k, .string (B d), .string (B p), .string (B da), .int .i64 v, .int .i64 o, .bool t] TP)
 have hb0 := heap_alloc_new w (.cells #[.int .i64 k, .string (B d), .string (B p), .string (B da), .int .i64 v, .int .i64 o, .bool t] TP)
 have HF0 := Lib.hid (And.intro hf0 hb0)
 unfold ptV strV
 clear hri hke hsp hkp h1 h3 hr key hl hf0 hb0
 by_cases ha : 1 ≤ k
 ·have q1 : (k < (1 : Int)) = False := eq_false (by omega)
  by_cases hb : k ≤ 10
  ·have q2 : ((11 : Int) ≤ k) = False := eq_false (by omega)
   cases sp with
   | false =>
    have Q := Lib.hid (And.intro ha (hb))
    clear ha hb hn
    go_enter Tryz.func21, Tryz.ntmps21
    go_wp2_with fail
    refine wp_region_held_drew (S := (fun w' => w'.cell? ⟨w.heap.size, 0, none⟩ = some (.int .i64 k) ∧ w'.cell? ⟨w.heap.size, 1, none⟩ = some (.string (B d)) ∧ w'.cell? ⟨w.heap.size, 2, none⟩ = some (.string (B p)))) (by kernel_rfl) ?_ (fun hHeld => ?_)
    ·exact boxP3 ((Fp.refl Non _).drew.heap HF0.out.2 (fun h => h))
    refine tk 0 (v := ?_) hHeld (fun w hSw => ?_) ?_; rotate_left
    ·(try dsimp only at hSw); obtain ⟨s0, s1, s2⟩ := hSw; go_simp; try with_reducible rfl
    try simp only [zP, zN, zS, zT, zU]
    refine tk 1 (v := ?_) hHeld (fun w hSw => ?_) ?_; rotate_left
    ·(try dsimp only at hSw); obtain ⟨s0, s1, s2⟩ := hSw; go_simp; try with_reducible rfl
    try simp only [zP, zN, zS, zT, zU]
    refine tk 2 (v := ?_) hHeld (fun w hSw => ?_) ?_; rotate_left
    ·(try dsimp only at hSw); obtain ⟨s0, s1, s2⟩ := hSw; go_simp; try with_reducible rfl
    try simp only [zP, zN, zS, zT, zU]
    refine tk 3 (v := ?_) hHeld (fun w hSw => ?_) ?_; rotate_left
    ·(try dsimp only at hSw); obtain ⟨s0, s1, s2⟩ := hSw; go_simp; try with_reducible rfl
    try simp only [zP, zN, zS, zT, zU]
    refine tk 4 (v := ?_) hHeld (fun w hSw => ?_) ?_; rotate_left
    ·(try dsimp only at hSw); obtain ⟨s0, s1, s2⟩ := hSw; go_simp; try with_reducible rfl
    try simp only [zP, zN, zS, zT, zU]
    refine tk 5 (v := ?_) hHeld (fun w hSw => ?_) ?_; rotate_left
    ·(try dsimp only at hSw); obtain ⟨s0, s1, s2⟩ := hSw; go_simp; try with_reducible rfl
    try simp only [zP, zN, zS, zT, zU]
    refine tk 6 (v := ?_) hHeld (fun w hSw => ?_) ?_; rotate_left
    ·(try dsimp only at hSw); obtain ⟨s0, s1, s2⟩ := hSw; go_simp; try with_reducible rfl
    try simp only [zP, zN, zS, zT, zU]
    refine tk 7 (v := ?_) hHeld (fun w hSw => ?_) ?_; rotate_left
    ·(try dsimp only at hSw); obtain ⟨s0, s1, s2⟩ := hSw; go_simp; try with_reducible rfl
    try simp only [zP, zN, zS, zT, zU]
    refine tk 8 (v := ?_) hHeld (fun w hSw => ?_) ?_; rotate_left
    ·(try dsimp only at hSw); obtain ⟨s0, s1, s2⟩ := hSw; go_simp; try with_reducible rfl
    try simp only [zP, zN, zS, zT, zU]
    refine tk 9 (v := ?_) hHeld (fun w hSw => ?_) ?_; rotate_left
    ·(try dsimp only at hSw); obtain ⟨s0, s1, s2⟩ := hSw; go_simp; try with_reducible rfl
    try simp only [zP, zN, zS, zT, zU]
    refine tk 10 (v := ?_) hHeld (fun w hSw => ?_) ?_; rotate_left
    ·(try dsimp only at hSw); obtain ⟨s0, s1, s2⟩ := hSw; go_simp; try with_reducible rfl
    try simp only [zP, zN, zS, zT, zU]
    refine wpAnyH_ready (rs := [11]) (by kernel_rfl) (by simp) ?_
    refine AllReadyH.cons (o := ?ob256) ?hb256 (fun K hK => ?_) AllReadyH.nil
    case hb256 => simp only [zA, zB, zC] <;> exact rfl
    go_simp
    go_at_call 64
    refine (HR.out _).mono ?_
    rintro e w1 ⟨rfl, g1⟩
    have hb1 := g1.fp.heap (k := w.heap.size) ((Fp.refl Non _).drew.heap HF0.out.2 (fun h => h)) (fun h => h)
    have HB1 := Lib.hid hb1
    have HS1 := Lib.hid (boxP3 hb1)
    have F1 := Lib.hid (HF0.out.1.then (((Fp.refl Non _).drew).then g1.fp))
    clear g1 hb1
    go_wp2_with fail
    refine hK.out _ _ HS1.out (fun hHeld => ?_)
    clear hK K
    try simp only [zP, zN, zS, zT, zU]
    refine tk 12 (v := ?_) hHeld (fun w hSw => ?_) ?_; rotate_left
    ·(try dsimp only at hSw); obtain ⟨s0, s1, s2⟩ := hSw; go_simp; try with_reducible rfl
    try simp only [zP, zN, zS, zT, zU]
    refine tk 13 (v := ?_) hHeld (fun w hSw => ?_) ?_; rotate_left
    ·(try dsimp only at hSw); obtain ⟨s0, s1, s2⟩ := hSw; go_simp; try with_reducible rfl
    try simp only [zP, zN, zS, zT, zU]
    refine tk 14 (v := ?_) hHeld (fun w hSw => ?_) ?_; rotate_left
    ·(try dsimp only at hSw); obtain ⟨s0, s1, s2⟩ := hSw; go_simp; try with_reducible rfl
    try simp only [zP, zN, zS, zT, zU]
    refine sk 15 hHeld ?_
    try simp only [zP, zN, zS, zT, zU]
    refine sk 16 hHeld ?_
    try simp only [zP, zN, zS, zT, zU]
    refine sk 17 hHeld ?_
    try simp only [zP, zN, zS, zT, zU]
    refine sk 18 hHeld ?_
    try simp only [zP, zN, zS, zT, zU]
    refine sk 19 hHeld ?_
    try simp only [zP, zN, zS, zT, zU]
    refine sk 20 hHeld ?_
    try simp only [zP, zN, zS, zT, zU]
    refine sk 21 hHeld ?_
    try simp only [zP, zN, zS, zT, zU]
    refine sk 22 hHeld ?_
    try simp only [zP, zN, zS, zT, zU]
    refine tk 23 (v := ?_) hHeld (fun w hSw => ?_) ?_; rotate_left
    ·(try dsimp only at hSw); obtain ⟨s0, s1, s2⟩ := hSw; go_simp; try with_reducible rfl
    try simp only [zP, zN, zS, zT, zU]
    refine wpAnyH_done (by kernel_rfl) ?_ _
    go_wp2
    go_ret
    exact ⟨ret_bool (HFin.out _ (by simp [Q.out])).symm, F1.out⟩
   | true =>
    by_cases hd0 : d = kp
    ·have q3 : (d != kp) = false := by simpa using hd0
     have q3b : (d == kp) = true := by simpa using hd0
     have q3c : (d = kp) = True := eq_true hd0
     by_cases h2 : k = 2
     ·have q4 : (k == 2) = true := by simpa using h2
      have q4b : (k = 2) = True := eq_true h2
      by_cases hp : p = [47]
      ·have q7 : (p == [47]) = true := by simpa using hp
       have q7b : (p = [47]) = True := eq_true hp
       have Q := Lib.hid (And.intro ha (And.intro hb (And.intro hd0 (And.intro h2 (hp)))))
       clear ha hb hd0 h2 hp hn
       go_enter Tryz.func21, Tryz.ntmps21
       go_wp2_with fail
       refine wp_region_held_drew (S := (fun w' => w'.cell? ⟨w.heap.size, 0, none⟩ = some (.int .i64 k) ∧ w'.cell? ⟨w.heap.size, 1, none⟩ = some (.string (B d)) ∧ w'.cell? ⟨w.heap.size, 2, none⟩ = some (.string (B p)))) (by kernel_rfl) ?_ (fun hHeld => ?_)
       ·exact boxP3 ((Fp.refl Non _).drew.heap HF0.out.2 (fun h => h))
       refine tk 0 (v := ?_) hHeld (fun w hSw => ?_) ?_; rotate_left
       ·(try dsimp only at hSw); obtain ⟨s0, s1, s2⟩ := hSw; go_simp; try with_reducible rfl
       try simp only [zP, zN, zS, zT, zU]
       refine tk 1 (v := ?_) hHeld (fun w hSw => ?_) ?_; rotate_left
       ·(try dsimp only at hSw); obtain ⟨s0, s1, s2⟩ := hSw; go_simp; try with_reducible rfl
       try simp only [zP, zN, zS, zT, zU]
       refine tk 2 (v := ?_) hHeld (fun w hSw => ?_) ?_; rotate_left
       ·(try dsimp only at hSw); obtain ⟨s0, s1, s2⟩ := hSw; go_simp; try with_reducible rfl
       try simp only [zP, zN, zS, zT, zU]
       refine tk 3 (v := ?_) hHeld (fun w hSw => ?_) ?_; rotate_left
       ·(try dsimp only at hSw); obtain ⟨s0, s1, s2⟩ := hSw; go_simp; try with_reducible rfl
       try simp only [zP, zN, zS, zT, zU]
       refine tk 4 (v := ?_) hHeld (fun w hSw => ?_) ?_; rotate_left
       ·(try dsimp only at hSw); obtain ⟨s0, s1, s2⟩ := hSw; go_simp; try with_reducible rfl
       try simp only [zP, zN, zS, zT, zU]
       refine tk 5 (v := ?_) hHeld (fun w hSw => ?_) ?_; rotate_left
       ·(try dsimp only at hSw); obtain ⟨s0, s1, s2⟩ := hSw; go_simp; try with_reducible rfl
       try simp only [zP, zN, zS, zT, zU]
       refine tk 6 (v := ?_) hHeld (fun w hSw => ?_) ?_; rotate_left
       ·(try dsimp only at hSw); obtain ⟨s0, s1, s2⟩ := hSw; go_simp; try with_reducible rfl
       try simp only [zP, zN, zS, zT, zU]
       refine tk 7 (v := ?_) hHeld (fun w hSw => ?_) ?_; rotate_left
       ·(try dsimp only at hSw); obtain ⟨s0, s1, s2⟩ := hSw; go_simp; try with_reducible rfl
       try simp only [zP, zN, zS, zT, zU]
       refine tk 8 (v := ?_) hHeld (fun w hSw => ?_) ?_; rotate_left
       ·(try dsimp only at hSw); obtain ⟨s0, s1, s2⟩ := hSw; go_simp; try with_reducible rfl
       try simp only [zP, zN, zS, zT, zU]
       refine tk 9 (v := ?_) hHeld (fun w hSw => ?_) ?_; rotate_left
       ·(try dsimp only at hSw); obtain ⟨s0, s1, s2⟩ := hSw; go_simp; try with_reducible rfl
       try simp only [zP, zN, zS, zT, zU]
       refine tk 10 (v := ?_) hHeld (fun w hSw => ?_) ?_; rotate_left
       ·(try dsimp only at hSw); obtain ⟨s0, s1, s2⟩ := hSw; go_simp; try with_reducible rfl
       try simp only [zP, zN, zS, zT, zU]
       refine wpAnyH_ready (rs := [11]) (by kernel_rfl) (by simp) ?_
       refine AllReadyH.cons (o := ?ob112) ?hb112 (fun K hK => ?_) AllReadyH.nil
       case hb112 => simp only [zA, zB, zC] <;> exact rfl
       go_simp
       go_at_call 64
       refine (HR.out _).mono ?_
       rintro e w1 ⟨rfl, g1⟩
       have hb1 := g1.fp.heap (k := w.heap.size) ((Fp.refl Non _).drew.heap HF0.out.2 (fun h => h)) (fun h => h)
       have HB1 := Lib.hid hb1
       have HS1 := Lib.hid (boxP3 hb1)
       have F1 := Lib.hid (HF0.out.1.then (((Fp.refl Non _).drew).then g1.fp))
       clear g1 hb1
       go_wp2_with fail
       refine hK.out _ _ HS1.out (fun hHeld => ?_)
       clear hK K
       try simp only [zP, zN, zS, zT, zU]
       refine tk 12 (v := ?_) hHeld (fun w hSw => ?_) ?_; rotate_left
       ·(try dsimp only at hSw); obtain ⟨s0, s1, s2⟩ := hSw; go_simp; try with_reducible rfl
       try simp only [zP, zN, zS, zT, zU]
       refine tk 13 (v := ?_) hHeld (fun w hSw => ?_) ?_; rotate_left
       ·(try dsimp only at hSw); obtain ⟨s0, s1, s2⟩ := hSw; go_simp; try with_reducible rfl
       try simp only [zP, zN, zS, zT, zU]
       refine tk 14 (v := ?_) hHeld (fun w hSw => ?_) ?_; rotate_left
       ·(try dsimp only at hSw); obtain ⟨s0, s1, s2⟩ := hSw; go_simp; try with_reducible rfl
       try simp only [zP, zN, zS, zT, zU]
       refine tk 15 (v := ?_) hHeld (fun w hSw => ?_) ?_; rotate_left
       ·(try dsimp only at hSw); obtain ⟨s0, s1, s2⟩ := hSw; go_simp; try with_reducible rfl
       try simp only [zP, zN, zS, zT, zU]
       refine tk 16 (v := ?_) hHeld (fun w hSw => ?_) ?_; rotate_left
       ·(try dsimp only at hSw); obtain ⟨s0, s1, s2⟩ := hSw; go_simp; try with_reducible rfl
       try simp only [zP, zN, zS, zT, zU]
       refine tk 17 (v := ?_) hHeld (fun w hSw => ?_) ?_; rotate_left
       ·(try dsimp only at hSw); obtain ⟨s0, s1, s2⟩ := hSw; go_simp; try with_reducible rfl
       try simp only [zP, zN, zS, zT, zU]
       refine tk 18 (v := ?_) hHeld (fun w hSw => ?_) ?_; rotate_left
       ·(try dsimp only at hSw); obtain ⟨s0, s1, s2⟩ := hSw; go_simp; try with_reducible rfl
       try simp only [zP, zN, zS, zT, zU]
       refine tk 19 (v := ?_) hHeld (fun w hSw => ?_) ?_; rotate_left
       ·(try dsimp only at hSw); obtain ⟨s0, s1, s2⟩ := hSw; go_simp; try with_reducible rfl
       try simp only [zP, zN, zS, zT, zU]
       refine tk 20 (v := ?_) hHeld (fun w hSw => ?_) ?_; rotate_left
       ·(try dsimp only at hSw); obtain ⟨s0, s1, s2⟩ := hSw; go_simp; try with_reducible rfl
       try simp only [zP, zN, zS, zT, zU]
       refine wpAnyH_ready (rs := [21]) (by kernel_rfl) (by simp) ?_
       refine AllReadyH.cons (o := ?ob122) ?hb122 (fun K hK => ?_) AllReadyH.nil
       case hb122 => simp only [zA, zB, zC] <;> exact rfl
       go_simp
       go_at_call 68
       refine (HKE.out _).mono ?_
       rintro e w2 ⟨rfl, g2⟩
       have hb2 := g2.heap (k := w.heap.size) HB1.out (fun h => h)
       have HB2 := Lib.hid hb2
       have HS2 := Lib.hid (boxP3 hb2)
       have F := Lib.hid (F1.out.then g2)
       clear g2 hb2
       go_wp2_with fail
       refine hK.out _ _ HS2.out (fun hHeld => ?_)
       clear hK K
       try simp only [zP, zN, zS, zT, zU]
       refine tk 22 (v := ?_) hHeld (fun w hSw => ?_) ?_; rotate_left
       ·(try dsimp only at hSw); obtain ⟨s0, s1, s2⟩ := hSw; go_simp; try with_reducible rfl
       try simp only [zP, zN, zS, zT, zU]
       refine tk 23 (v := ?_) hHeld (fun w hSw => ?_) ?_; rotate_left
       ·(try dsimp only at hSw); obtain ⟨s0, s1, s2⟩ := hSw; go_simp; try with_reducible rfl
       try simp only [zP, zN, zS, zT, zU]
       refine wpAnyH_done (by kernel_rfl) ?_ _
       obtain ⟨c0, c1, c2, c3, c4, c5, c6⟩ := boxP7 HB2.out
       go_wp2
       go_ret
       exact ⟨ret_bool (HFin.out _ (by simp [Q.out])).symm, F.out⟩
      ·have q7 : (p == [47]) = false := by simpa using hp
       have q7b : (p = [47]) = False := eq_false hp
       by_cases hd : n ≤ 256
       ·have q5 : ((256 : Int) < (da.length : Int)) = False := eq_false (by omega)
        have q6 : ((da.length : Int) ≤ (256 : Int)) = True := eq_true (by omega)
        have Q := Lib.hid (And.intro ha (And.intro hb (And.intro hd0 (And.intro h2 (And.intro hp (hd))))))
        clear ha hb hd0 h2 hp hd hn
        go_enter Tryz.func21, Tryz.ntmps21
        go_wp2_with fail
        refine wp_region_held_drew (S := (fun w' => w'.cell? ⟨w.heap.size, 0, none⟩ = some (.int .i64 k) ∧ w'.cell? ⟨w.heap.size, 1, none⟩ = some (.string (B d)) ∧ w'.cell? ⟨w.heap.size, 2, none⟩ = some (.string (B p)))) (by kernel_rfl) ?_ (fun hHeld => ?_)
        ·exact boxP3 ((Fp.refl Non _).drew.heap HF0.out.2 (fun h => h))
        refine tk 0 (v := ?_) hHeld (fun w hSw => ?_) ?_; rotate_left
        ·(try dsimp only at hSw); obtain ⟨s0, s1, s2⟩ := hSw; go_simp; try with_reducible rfl
        try simp only [zP, zN, zS, zT, zU]
        refine tk 1 (v := ?_) hHeld (fun w hSw => ?_) ?_; rotate_left
        ·(try dsimp only at hSw); obtain ⟨s0, s1, s2⟩ := hSw; go_simp; try with_reducible rfl
        try simp only [zP, zN, zS, zT, zU]
        refine tk 2 (v := ?_) hHeld (fun w hSw => ?_) ?_; rotate_left
        ·(try dsimp only at hSw); obtain ⟨s0, s1, s2⟩ := hSw; go_simp; try with_reducible rfl
        try simp only [zP, zN, zS, zT, zU]
        refine tk 3 (v := ?_) hHeld (fun w hSw => ?_) ?_; rotate_left
        ·(try dsimp only at hSw); obtain ⟨s0, s1, s2⟩ := hSw; go_simp; try with_reducible rfl
        try simp only [zP, zN, zS, zT, zU]
        refine tk 4 (v := ?_) hHeld (fun w hSw => ?_) ?_; rotate_left
        ·(try dsimp only at hSw); obtain ⟨s0, s1, s2⟩ := hSw; go_simp; try with_reducible rfl
        try simp only [zP, zN, zS, zT, zU]
        refine tk 5 (v := ?_) hHeld (fun w hSw => ?_) ?_; rotate_left
        ·(try dsimp only at hSw); obtain ⟨s0, s1, s2⟩ := hSw; go_simp; try with_reducible rfl
        try simp only [zP, zN, zS, zT, zU]
        refine tk 6 (v := ?_) hHeld (fun w hSw => ?_) ?_; rotate_left
        ·(try dsimp only at hSw); obtain ⟨s0, s1, s2⟩ := hSw; go_simp; try with_reducible rfl
        try simp only [zP, zN, zS, zT, zU]
        refine tk 7 (v := ?_) hHeld (fun w hSw => ?_) ?_; rotate_left
        ·(try dsimp only at hSw); obtain ⟨s0, s1, s2⟩ := hSw; go_simp; try with_reducible rfl
        try simp only [zP, zN, zS, zT, zU]
        refine tk 8 (v := ?_) hHeld (fun w hSw => ?_) ?_; rotate_left
        ·(try dsimp only at hSw); obtain ⟨s0, s1, s2⟩ := hSw; go_simp; try with_reducible rfl
        try simp only [zP, zN, zS, zT, zU]
        refine tk 9 (v := ?_) hHeld (fun w hSw => ?_) ?_; rotate_left
        ·(try dsimp only at hSw); obtain ⟨s0, s1, s2⟩ := hSw; go_simp; try with_reducible rfl
        try simp only [zP, zN, zS, zT, zU]
        refine tk 10 (v := ?_) hHeld (fun w hSw => ?_) ?_; rotate_left
        ·(try dsimp only at hSw); obtain ⟨s0, s1, s2⟩ := hSw; go_simp; try with_reducible rfl
        try simp only [zP, zN, zS, zT, zU]
        refine wpAnyH_ready (rs := [11]) (by kernel_rfl) (by simp) ?_
        refine AllReadyH.cons (o := ?ob136) ?hb136 (fun K hK => ?_) AllReadyH.nil
        case hb136 => simp only [zA, zB, zC] <;> exact rfl
        go_simp
        go_at_call 64
        refine (HR.out _).mono ?_
        rintro e w1 ⟨rfl, g1⟩
        have hb1 := g1.fp.heap (k := w.heap.size) ((Fp.refl Non _).drew.heap HF0.out.2 (fun h => h)) (fun h => h)
        have HB1 := Lib.hid hb1
        have HS1 := Lib.hid (boxP3 hb1)
        have F1 := Lib.hid (HF0.out.1.then (((Fp.refl Non _).drew).then g1.fp))
        clear g1 hb1
        go_wp2_with fail
        refine hK.out _ _ HS1.out (fun hHeld => ?_)
        clear hK K
        try simp only [zP, zN, zS, zT, zU]
        refine tk 12 (v := ?_) hHeld (fun w hSw => ?_) ?_; rotate_left
        ·(try dsimp only at hSw); obtain ⟨s0, s1, s2⟩ := hSw; go_simp; try with_reducible rfl
        try simp only [zP, zN, zS, zT, zU]
        refine tk 13 (v := ?_) hHeld (fun w hSw => ?_) ?_; rotate_left
        ·(try dsimp only at hSw); obtain ⟨s0, s1, s2⟩ := hSw; go_simp; try with_reducible rfl
        try simp only [zP, zN, zS, zT, zU]
        refine tk 14 (v := ?_) hHeld (fun w hSw => ?_) ?_; rotate_left
        ·(try dsimp only at hSw); obtain ⟨s0, s1, s2⟩ := hSw; go_simp; try with_reducible rfl
        try simp only [zP, zN, zS, zT, zU]
        refine tk 15 (v := ?_) hHeld (fun w hSw => ?_) ?_; rotate_left
        ·(try dsimp only at hSw); obtain ⟨s0, s1, s2⟩ := hSw; go_simp; try with_reducible rfl
        try simp only [zP, zN, zS, zT, zU]
        refine tk 16 (v := ?_) hHeld (fun w hSw => ?_) ?_; rotate_left
        ·(try dsimp only at hSw); obtain ⟨s0, s1, s2⟩ := hSw; go_simp; try with_reducible rfl
        try simp only [zP, zN, zS, zT, zU]
        refine tk 17 (v := ?_) hHeld (fun w hSw => ?_) ?_; rotate_left
        ·(try dsimp only at hSw); obtain ⟨s0, s1, s2⟩ := hSw; go_simp; try with_reducible rfl
        try simp only [zP, zN, zS, zT, zU]
        refine tk 18 (v := ?_) hHeld (fun w hSw => ?_) ?_; rotate_left
        ·(try dsimp only at hSw); obtain ⟨s0, s1, s2⟩ := hSw; go_simp; try with_reducible rfl
        try simp only [zP, zN, zS, zT, zU]
        refine tk 19 (v := ?_) hHeld (fun w hSw => ?_) ?_; rotate_left
        ·(try dsimp only at hSw); obtain ⟨s0, s1, s2⟩ := hSw; go_simp; try with_reducible rfl
        try simp only [zP, zN, zS, zT, zU]
        refine tk 20 (v := ?_) hHeld (fun w hSw => ?_) ?_; rotate_left
        ·(try dsimp only at hSw); obtain ⟨s0, s1, s2⟩ := hSw; go_simp; try with_reducible rfl
        try simp only [zP, zN, zS, zT, zU]
        refine wpAnyH_ready (rs := [21]) (by kernel_rfl) (by simp) ?_
        refine AllReadyH.cons (o := ?ob146) ?hb146 (fun K hK => ?_) AllReadyH.nil
        case hb146 => simp only [zA, zB, zC] <;> exact rfl
        go_simp
        go_at_call 68
        refine (HKE.out _).mono ?_
        rintro e w2 ⟨rfl, g2⟩
        have hb2 := g2.heap (k := w.heap.size) HB1.out (fun h => h)
        have HB2 := Lib.hid hb2
        have HS2 := Lib.hid (boxP3 hb2)
        have F := Lib.hid (F1.out.then g2)
        clear g2 hb2
        go_wp2_with fail
        refine hK.out _ _ HS2.out (fun hHeld => ?_)
        clear hK K
        try simp only [zP, zN, zS, zT, zU]
        refine tk 22 (v := ?_) hHeld (fun w hSw => ?_) ?_; rotate_left
        ·(try dsimp only at hSw); obtain ⟨s0, s1, s2⟩ := hSw; go_simp; try with_reducible rfl
        try simp only [zP, zN, zS, zT, zU]
        refine tk 23 (v := ?_) hHeld (fun w hSw => ?_) ?_; rotate_left
        ·(try dsimp only at hSw); obtain ⟨s0, s1, s2⟩ := hSw; go_simp; try with_reducible rfl
        try simp only [zP, zN, zS, zT, zU]
        refine wpAnyH_done (by kernel_rfl) ?_ _
        obtain ⟨c0, c1, c2, c3, c4, c5, c6⟩ := boxP7 HB2.out
        cases b1 <;> cases b3
        all_goals
         go_wp2_with (first
          | (go_at_call_of 65 v; refine (W1.out _).mono ?_; rintro e w3 ⟨rfl, rfl⟩)
          | (go_at_call_of 65 o; refine (W3.out _).mono ?_; rintro e w3 ⟨rfl, rfl⟩))
         go_ret
         exact ⟨ret_bool (HFin.out _ (by simp [Q.out])).symm, F.out⟩
       ·have q5 : ((256 : Int) < (da.length : Int)) = True := eq_true (by omega)
        have q6 : ((da.length : Int) ≤ (256 : Int)) = False := eq_false (by omega)
        have Q := Lib.hid (And.intro ha (And.intro hb (And.intro hd0 (And.intro h2 (And.intro hp (hd))))))
        clear ha hb hd0 h2 hp hd hn
        go_enter Tryz.func21, Tryz.ntmps21
        go_wp2_with fail
        refine wp_region_held_drew (S := (fun w' => w'.cell? ⟨w.heap.size, 0, none⟩ = some (.int .i64 k) ∧ w'.cell? ⟨w.heap.size, 1, none⟩ = some (.string (B d)) ∧ w'.cell? ⟨w.heap.size, 2, none⟩ = some (.string (B p)))) (by kernel_rfl) ?_ (fun hHeld => ?_)
        ·exact boxP3 ((Fp.refl Non _).drew.heap HF0.out.2 (fun h => h))
        refine tk 0 (v := ?_) hHeld (fun w hSw => ?_) ?_; rotate_left
        ·(try dsimp only at hSw); obtain ⟨s0, s1, s2⟩ := hSw; go_simp; try with_reducible rfl
        try simp only [zP, zN, zS, zT, zU]
        refine tk 1 (v := ?_) hHeld (fun w hSw => ?_) ?_; rotate_left
        ·(try dsimp only at hSw); obtain ⟨s0, s1, s2⟩ := hSw; go_simp; try with_reducible rfl
        try simp only [zP, zN, zS, zT, zU]
        refine tk 2 (v := ?_) hHeld (fun w hSw => ?_) ?_; rotate_left
        ·(try dsimp only at hSw); obtain ⟨s0, s1, s2⟩ := hSw; go_simp; try with_reducible rfl
        try simp only [zP, zN, zS, zT, zU]
        refine tk 3 (v := ?_) hHeld (fun w hSw => ?_) ?_; rotate_left
        ·(try dsimp only at hSw); obtain ⟨s0, s1, s2⟩ := hSw; go_simp; try with_reducible rfl
        try simp only [zP, zN, zS, zT, zU]
        refine tk 4 (v := ?_) hHeld (fun w hSw => ?_) ?_; rotate_left
        ·(try dsimp only at hSw); obtain ⟨s0, s1, s2⟩ := hSw; go_simp; try with_reducible rfl
        try simp only [zP, zN, zS, zT, zU]
        refine tk 5 (v := ?_) hHeld (fun w hSw => ?_) ?_; rotate_left
        ·(try dsimp only at hSw); obtain ⟨s0, s1, s2⟩ := hSw; go_simp; try with_reducible rfl
        try simp only [zP, zN, zS, zT, zU]
        refine tk 6 (v := ?_) hHeld (fun w hSw => ?_) ?_; rotate_left
        ·(try dsimp only at hSw); obtain ⟨s0, s1, s2⟩ := hSw; go_simp; try with_reducible rfl
        try simp only [zP, zN, zS, zT, zU]
        refine tk 7 (v := ?_) hHeld (fun w hSw => ?_) ?_; rotate_left
        ·(try dsimp only at hSw); obtain ⟨s0, s1, s2⟩ := hSw; go_simp; try with_reducible rfl
        try simp only [zP, zN, zS, zT, zU]
        refine tk 8 (v := ?_) hHeld (fun w hSw => ?_) ?_; rotate_left
        ·(try dsimp only at hSw); obtain ⟨s0, s1, s2⟩ := hSw; go_simp; try with_reducible rfl
        try simp only [zP, zN, zS, zT, zU]
        refine tk 9 (v := ?_) hHeld (fun w hSw => ?_) ?_; rotate_left
        ·(try dsimp only at hSw); obtain ⟨s0, s1, s2⟩ := hSw; go_simp; try with_reducible rfl
        try simp only [zP, zN, zS, zT, zU]
        refine tk 10 (v := ?_) hHeld (fun w hSw => ?_) ?_; rotate_left
        ·(try dsimp only at hSw); obtain ⟨s0, s1, s2⟩ := hSw; go_simp; try with_reducible rfl
        try simp only [zP, zN, zS, zT, zU]
        refine wpAnyH_ready (rs := [11]) (by kernel_rfl) (by simp) ?_
        refine AllReadyH.cons (o := ?ob160) ?hb160 (fun K hK => ?_) AllReadyH.nil
        case hb160 => simp only [zA, zB, zC] <;> exact rfl
        go_simp
        go_at_call 64
        refine (HR.out _).mono ?_
        rintro e w1 ⟨rfl, g1⟩
        have hb1 := g1.fp.heap (k := w.heap.size) ((Fp.refl Non _).drew.heap HF0.out.2 (fun h => h)) (fun h => h)
        have HB1 := Lib.hid hb1
        have HS1 := Lib.hid (boxP3 hb1)
        have F1 := Lib.hid (HF0.out.1.then (((Fp.refl Non _).drew).then g1.fp))
        clear g1 hb1
        go_wp2_with fail
        refine hK.out _ _ HS1.out (fun hHeld => ?_)
        clear hK K
        try simp only [zP, zN, zS, zT, zU]
        refine tk 12 (v := ?_) hHeld (fun w hSw => ?_) ?_; rotate_left
        ·(try dsimp only at hSw); obtain ⟨s0, s1, s2⟩ := hSw; go_simp; try with_reducible rfl
        try simp only [zP, zN, zS, zT, zU]
        refine tk 13 (v := ?_) hHeld (fun w hSw => ?_) ?_; rotate_left
        ·(try dsimp only at hSw); obtain ⟨s0, s1, s2⟩ := hSw; go_simp; try with_reducible rfl
        try simp only [zP, zN, zS, zT, zU]
        refine tk 14 (v := ?_) hHeld (fun w hSw => ?_) ?_; rotate_left
        ·(try dsimp only at hSw); obtain ⟨s0, s1, s2⟩ := hSw; go_simp; try with_reducible rfl
        try simp only [zP, zN, zS, zT, zU]
        refine tk 15 (v := ?_) hHeld (fun w hSw => ?_) ?_; rotate_left
        ·(try dsimp only at hSw); obtain ⟨s0, s1, s2⟩ := hSw; go_simp; try with_reducible rfl
        try simp only [zP, zN, zS, zT, zU]
        refine tk 16 (v := ?_) hHeld (fun w hSw => ?_) ?_; rotate_left
        ·(try dsimp only at hSw); obtain ⟨s0, s1, s2⟩ := hSw; go_simp; try with_reducible rfl
        try simp only [zP, zN, zS, zT, zU]
        refine tk 17 (v := ?_) hHeld (fun w hSw => ?_) ?_; rotate_left
        ·(try dsimp only at hSw); obtain ⟨s0, s1, s2⟩ := hSw; go_simp; try with_reducible rfl
        try simp only [zP, zN, zS, zT, zU]
        refine tk 18 (v := ?_) hHeld (fun w hSw => ?_) ?_; rotate_left
        ·(try dsimp only at hSw); obtain ⟨s0, s1, s2⟩ := hSw; go_simp; try with_reducible rfl
        try simp only [zP, zN, zS, zT, zU]
        refine tk 19 (v := ?_) hHeld (fun w hSw => ?_) ?_; rotate_left
        ·(try dsimp only at hSw); obtain ⟨s0, s1, s2⟩ := hSw; go_simp; try with_reducible rfl
        try simp only [zP, zN, zS, zT, zU]
        refine tk 20 (v := ?_) hHeld (fun w hSw => ?_) ?_; rotate_left
        ·(try dsimp only at hSw); obtain ⟨s0, s1, s2⟩ := hSw; go_simp; try with_reducible rfl
        try simp only [zP, zN, zS, zT, zU]
        refine wpAnyH_ready (rs := [21]) (by kernel_rfl) (by simp) ?_
        refine AllReadyH.cons (o := ?ob170) ?hb170 (fun K hK => ?_) AllReadyH.nil
        case hb170 => simp only [zA, zB, zC] <;> exact rfl
        go_simp
        go_at_call 68
        refine (HKE.out _).mono ?_
        rintro e w2 ⟨rfl, g2⟩
        have hb2 := g2.heap (k := w.heap.size) HB1.out (fun h => h)
        have HB2 := Lib.hid hb2
        have HS2 := Lib.hid (boxP3 hb2)
        have F := Lib.hid (F1.out.then g2)
        clear g2 hb2
        go_wp2_with fail
        refine hK.out _ _ HS2.out (fun hHeld => ?_)
        clear hK K
        try simp only [zP, zN, zS, zT, zU]
        refine tk 22 (v := ?_) hHeld (fun w hSw => ?_) ?_; rotate_left
        ·(try dsimp only at hSw); obtain ⟨s0, s1, s2⟩ := hSw; go_simp; try with_reducible rfl
        try simp only [zP, zN, zS, zT, zU]
        refine tk 23 (v := ?_) hHeld (fun w hSw => ?_) ?_; rotate_left
        ·(try dsimp only at hSw); obtain ⟨s0, s1, s2⟩ := hSw; go_simp; try with_reducible rfl
        try simp only [zP, zN, zS, zT, zU]
        refine wpAnyH_done (by kernel_rfl) ?_ _
        obtain ⟨c0, c1, c2, c3, c4, c5, c6⟩ := boxP7 HB2.out
        go_wp2
        go_ret
        exact ⟨ret_bool (HFin.out _ (by simp [Q.out])).symm, F.out⟩
     ·have q4 : (k == 2) = false := by simpa using h2
      have q4b : (k = 2) = False := eq_false h2
      by_cases hd : n ≤ 256
      ·have q5 : ((256 : Int) < (da.length : Int)) = False := eq_false (by omega)
       have q6 : ((da.length : Int) ≤ (256 : Int)) = True := eq_true (by omega)
       have Q := Lib.hid (And.intro ha (And.intro hb (And.intro hd0 (And.intro h2 (hd)))))
       clear ha hb hd0 h2 hd hn
       go_enter Tryz.func21, Tryz.ntmps21
       go_wp2_with fail
       refine wp_region_held_drew (S := (fun w' => w'.cell? ⟨w.heap.size, 0, none⟩ = some (.int .i64 k) ∧ w'.cell? ⟨w.heap.size, 1, none⟩ = some (.string (B d)) ∧ w'.cell? ⟨w.heap.size, 2, none⟩ = some (.string (B p)))) (by kernel_rfl) ?_ (fun hHeld => ?_)
       ·exact boxP3 ((Fp.refl Non _).drew.heap HF0.out.2 (fun h => h))
       refine tk 0 (v := ?_) hHeld (fun w hSw => ?_) ?_; rotate_left
       ·(try dsimp only at hSw); obtain ⟨s0, s1, s2⟩ := hSw; go_simp; try with_reducible rfl
       try simp only [zP, zN, zS, zT, zU]
       refine tk 1 (v := ?_) hHeld (fun w hSw => ?_) ?_; rotate_left
       ·(try dsimp only at hSw); obtain ⟨s0, s1, s2⟩ := hSw; go_simp; try with_reducible rfl
       try simp only [zP, zN, zS, zT, zU]
       refine tk 2 (v := ?_) hHeld (fun w hSw => ?_) ?_; rotate_left
       ·(try dsimp only at hSw); obtain ⟨s0, s1, s2⟩ := hSw; go_simp; try with_reducible rfl
       try simp only [zP, zN, zS, zT, zU]
       refine tk 3 (v := ?_) hHeld (fun w hSw => ?_) ?_; rotate_left
       ·(try dsimp only at hSw); obtain ⟨s0, s1, s2⟩ := hSw; go_simp; try with_reducible rfl
       try simp only [zP, zN, zS, zT, zU]
       refine tk 4 (v := ?_) hHeld (fun w hSw => ?_) ?_; rotate_left
       ·(try dsimp only at hSw); obtain ⟨s0, s1, s2⟩ := hSw; go_simp; try with_reducible rfl
       try simp only [zP, zN, zS, zT, zU]
       refine tk 5 (v := ?_) hHeld (fun w hSw => ?_) ?_; rotate_left
       ·(try dsimp only at hSw); obtain ⟨s0, s1, s2⟩ := hSw; go_simp; try with_reducible rfl
       try simp only [zP, zN, zS, zT, zU]
       refine tk 6 (v := ?_) hHeld (fun w hSw => ?_) ?_; rotate_left
       ·(try dsimp only at hSw); obtain ⟨s0, s1, s2⟩ := hSw; go_simp; try with_reducible rfl
       try simp only [zP, zN, zS, zT, zU]
       refine tk 7 (v := ?_) hHeld (fun w hSw => ?_) ?_; rotate_left
       ·(try dsimp only at hSw); obtain ⟨s0, s1, s2⟩ := hSw; go_simp; try with_reducible rfl
       try simp only [zP, zN, zS, zT, zU]
       refine tk 8 (v := ?_) hHeld (fun w hSw => ?_) ?_; rotate_left
       ·(try dsimp only at hSw); obtain ⟨s0, s1, s2⟩ := hSw; go_simp; try with_reducible rfl
       try simp only [zP, zN, zS, zT, zU]
       refine tk 9 (v := ?_) hHeld (fun w hSw => ?_) ?_; rotate_left
       ·(try dsimp only at hSw); obtain ⟨s0, s1, s2⟩ := hSw; go_simp; try with_reducible rfl
       try simp only [zP, zN, zS, zT, zU]
       refine tk 10 (v := ?_) hHeld (fun w hSw => ?_) ?_; rotate_left
       ·(try dsimp only at hSw); obtain ⟨s0, s1, s2⟩ := hSw; go_simp; try with_reducible rfl
       try simp only [zP, zN, zS, zT, zU]
       refine wpAnyH_ready (rs := [11]) (by kernel_rfl) (by simp) ?_
       refine AllReadyH.cons (o := ?ob184) ?hb184 (fun K hK => ?_) AllReadyH.nil
       case hb184 => simp only [zA, zB, zC] <;> exact rfl
       go_simp
       go_at_call 64
       refine (HR.out _).mono ?_
       rintro e w1 ⟨rfl, g1⟩
       have hb1 := g1.fp.heap (k := w.heap.size) ((Fp.refl Non _).drew.heap HF0.out.2 (fun h => h)) (fun h => h)
       have HB1 := Lib.hid hb1
       have HS1 := Lib.hid (boxP3 hb1)
       have F1 := Lib.hid (HF0.out.1.then (((Fp.refl Non _).drew).then g1.fp))
       clear g1 hb1
       go_wp2_with fail
       refine hK.out _ _ HS1.out (fun hHeld => ?_)
       clear hK K
       try simp only [zP, zN, zS, zT, zU]
       refine tk 12 (v := ?_) hHeld (fun w hSw => ?_) ?_; rotate_left
       ·(try dsimp only at hSw); obtain ⟨s0, s1, s2⟩ := hSw; go_simp; try with_reducible rfl
       try simp only [zP, zN, zS, zT, zU]
       refine tk 13 (v := ?_) hHeld (fun w hSw => ?_) ?_; rotate_left
       ·(try dsimp only at hSw); obtain ⟨s0, s1, s2⟩ := hSw; go_simp; try with_reducible rfl
       try simp only [zP, zN, zS, zT, zU]
       refine tk 14 (v := ?_) hHeld (fun w hSw => ?_) ?_; rotate_left
       ·(try dsimp only at hSw); obtain ⟨s0, s1, s2⟩ := hSw; go_simp; try with_reducible rfl
       try simp only [zP, zN, zS, zT, zU]
       refine tk 15 (v := ?_) hHeld (fun w hSw => ?_) ?_; rotate_left
       ·(try dsimp only at hSw); obtain ⟨s0, s1, s2⟩ := hSw; go_simp; try with_reducible rfl
       try simp only [zP, zN, zS, zT, zU]
       refine tk 16 (v := ?_) hHeld (fun w hSw => ?_) ?_; rotate_left
       ·(try dsimp only at hSw); obtain ⟨s0, s1, s2⟩ := hSw; go_simp; try with_reducible rfl
       try simp only [zP, zN, zS, zT, zU]
       refine tk 17 (v := ?_) hHeld (fun w hSw => ?_) ?_; rotate_left
       ·(try dsimp only at hSw); obtain ⟨s0, s1, s2⟩ := hSw; go_simp; try with_reducible rfl
       try simp only [zP, zN, zS, zT, zU]
       refine tk 18 (v := ?_) hHeld (fun w hSw => ?_) ?_; rotate_left
       ·(try dsimp only at hSw); obtain ⟨s0, s1, s2⟩ := hSw; go_simp; try with_reducible rfl
       try simp only [zP, zN, zS, zT, zU]
       refine tk 19 (v := ?_) hHeld (fun w hSw => ?_) ?_; rotate_left
       ·(try dsimp only at hSw); obtain ⟨s0, s1, s2⟩ := hSw; go_simp; try with_reducible rfl
       try simp only [zP, zN, zS, zT, zU]
       refine tk 20 (v := ?_) hHeld (fun w hSw => ?_) ?_; rotate_left
       ·(try dsimp only at hSw); obtain ⟨s0, s1, s2⟩ := hSw; go_simp; try with_reducible rfl
       try simp only [zP, zN, zS, zT, zU]
       refine wpAnyH_ready (rs := [21]) (by kernel_rfl) (by simp) ?_
       refine AllReadyH.cons (o := ?ob194) ?hb194 (fun K hK => ?_) AllReadyH.nil
       case hb194 => simp only [zA, zB, zC] <;> exact rfl
       go_simp
       go_at_call 68
       refine (HKE.out _).mono ?_
       rintro e w2 ⟨rfl, g2⟩
       have hb2 := g2.heap (k := w.heap.size) HB1.out (fun h => h)
       have HB2 := Lib.hid hb2
       have HS2 := Lib.hid (boxP3 hb2)
       have F := Lib.hid (F1.out.then g2)
       clear g2 hb2
       go_wp2_with fail
       refine hK.out _ _ HS2.out (fun hHeld => ?_)
       clear hK K
       try simp only [zP, zN, zS, zT, zU]
       refine tk 22 (v := ?_) hHeld (fun w hSw => ?_) ?_; rotate_left
       ·(try dsimp only at hSw); obtain ⟨s0, s1, s2⟩ := hSw; go_simp; try with_reducible rfl
       try simp only [zP, zN, zS, zT, zU]
       refine tk 23 (v := ?_) hHeld (fun w hSw => ?_) ?_; rotate_left
       ·(try dsimp only at hSw); obtain ⟨s0, s1, s2⟩ := hSw; go_simp; try with_reducible rfl
       try simp only [zP, zN, zS, zT, zU]
       refine wpAnyH_done (by kernel_rfl) ?_ _
       obtain ⟨c0, c1, c2, c3, c4, c5, c6⟩ := boxP7 HB2.out
       cases b1 <;> cases b3
       all_goals
        go_wp2_with (first
         | (go_at_call_of 65 v; refine (W1.out _).mono ?_; rintro e w3 ⟨rfl, rfl⟩)
         | (go_at_call_of 65 o; refine (W3.out _).mono ?_; rintro e w3 ⟨rfl, rfl⟩))
        go_ret
        exact ⟨ret_bool (HFin.out _ (by simp [Q.out])).symm, F.out⟩
      ·have q5 : ((256 : Int) < (da.length : Int)) = True := eq_true (by omega)
       have q6 : ((da.length : Int) ≤ (256 : Int)) = False := eq_false (by omega)
       have Q := Lib.hid (And.intro ha (And.intro hb (And.intro hd0 (And.intro h2 (hd)))))
       clear ha hb hd0 h2 hd hn
       go_enter Tryz.func21, Tryz.ntmps21
       go_wp2_with fail
       refine wp_region_held_drew (S := (fun w' => w'.cell? ⟨w.heap.size, 0, none⟩ = some (.int .i64 k) ∧ w'.cell? ⟨w.heap.size, 1, none⟩ = some (.string (B d)) ∧ w'.cell? ⟨w.heap.size, 2, none⟩ = some (.string (B p)))) (by kernel_rfl) ?_ (fun hHeld => ?_)
       ·exact boxP3 ((Fp.refl Non _).drew.heap HF0.out.2 (fun h => h))
       refine tk 0 (v := ?_) hHeld (fun w hSw => ?_) ?_; rotate_left
       ·(try dsimp only at hSw); obtain ⟨s0, s1, s2⟩ := hSw; go_simp; try with_reducible rfl
       try simp only [zP, zN, zS, zT, zU]
       refine tk 1 (v := ?_) hHeld (fun w hSw => ?_) ?_; rotate_left
       ·(try dsimp only at hSw); obtain ⟨s0, s1, s2⟩ := hSw; go_simp; try with_reducible rfl
       try simp only [zP, zN, zS, zT, zU]
       refine tk 2 (v := ?_) hHeld (fun w hSw => ?_) ?_; rotate_left
       ·(try dsimp only at hSw); obtain ⟨s0, s1, s2⟩ := hSw; go_simp; try with_reducible rfl
       try simp only [zP, zN, zS, zT, zU]
       refine tk 3 (v := ?_) hHeld (fun w hSw => ?_) ?_; rotate_left
       ·(try dsimp only at hSw); obtain ⟨s0, s1, s2⟩ := hSw; go_simp; try with_reducible rfl
       try simp only [zP, zN, zS, zT, zU]
       refine tk 4 (v := ?_) hHeld (fun w hSw => ?_) ?_; rotate_left
       ·(try dsimp only at hSw); obtain ⟨s0, s1, s2⟩ := hSw; go_simp; try with_reducible rfl
       try simp only [zP, zN, zS, zT, zU]
       refine tk 5 (v := ?_) hHeld (fun w hSw => ?_) ?_; rotate_left
       ·(try dsimp only at hSw); obtain ⟨s0, s1, s2⟩ := hSw; go_simp; try with_reducible rfl
       try simp only [zP, zN, zS, zT, zU]
       refine tk 6 (v := ?_) hHeld (fun w hSw => ?_) ?_; rotate_left
       ·(try dsimp only at hSw); obtain ⟨s0, s1, s2⟩ := hSw; go_simp; try with_reducible rfl
       try simp only [zP, zN, zS, zT, zU]
       refine tk 7 (v := ?_) hHeld (fun w hSw => ?_) ?_; rotate_left
       ·(try dsimp only at hSw); obtain ⟨s0, s1, s2⟩ := hSw; go_simp; try with_reducible rfl
       try simp only [zP, zN, zS, zT, zU]
       refine tk 8 (v := ?_) hHeld (fun w hSw => ?_) ?_; rotate_left
       ·(try dsimp only at hSw); obtain ⟨s0, s1, s2⟩ := hSw; go_simp; try with_reducible rfl
       try simp only [zP, zN, zS, zT, zU]
       refine tk 9 (v := ?_) hHeld (fun w hSw => ?_) ?_; rotate_left
       ·(try dsimp only at hSw); obtain ⟨s0, s1, s2⟩ := hSw; go_simp; try with_reducible rfl
       try simp only [zP, zN, zS, zT, zU]
       refine tk 10 (v := ?_) hHeld (fun w hSw => ?_) ?_; rotate_left
       ·(try dsimp only at hSw); obtain ⟨s0, s1, s2⟩ := hSw; go_simp; try with_reducible rfl
       try simp only [zP, zN, zS, zT, zU]
       refine wpAnyH_ready (rs := [11]) (by kernel_rfl) (by simp) ?_
       refine AllReadyH.cons (o := ?ob208) ?hb208 (fun K hK => ?_) AllReadyH.nil
       case hb208 => simp only [zA, zB, zC] <;> exact rfl
       go_simp
       go_at_call 64
       refine (HR.out _).mono ?_
       rintro e w1 ⟨rfl, g1⟩
       have hb1 := g1.fp.heap (k := w.heap.size) ((Fp.refl Non _).drew.heap HF0.out.2 (fun h => h)) (fun h => h)
       have HB1 := Lib.hid hb1
       have HS1 := Lib.hid (boxP3 hb1)
       have F1 := Lib.hid (HF0.out.1.then (((Fp.refl Non _).drew).then g1.fp))
       clear g1 hb1
       go_wp2_with fail
       refine hK.out _ _ HS1.out (fun hHeld => ?_)
       clear hK K
       try simp only [zP, zN, zS, zT, zU]
       refine tk 12 (v := ?_) hHeld (fun w hSw => ?_) ?_; rotate_left
       ·(try dsimp only at hSw); obtain ⟨s0, s1, s2⟩ := hSw; go_simp; try with_reducible rfl
       try simp only [zP, zN, zS, zT, zU]
       refine tk 13 (v := ?_) hHeld (fun w hSw => ?_) ?_; rotate_left
       ·(try dsimp only at hSw); obtain ⟨s0, s1, s2⟩ := hSw; go_simp; try with_reducible rfl
       try simp only [zP, zN, zS, zT, zU]
       refine tk 14 (v := ?_) hHeld (fun w hSw => ?_) ?_; rotate_left
       ·(try dsimp only at hSw); obtain ⟨s0, s1, s2⟩ := hSw; go_simp; try with_reducible rfl
       try simp only [zP, zN, zS, zT, zU]
       refine tk 15 (v := ?_) hHeld (fun w hSw => ?_) ?_; rotate_left
       ·(try dsimp only at hSw); obtain ⟨s0, s1, s2⟩ := hSw; go_simp; try with_reducible rfl
       try simp only [zP, zN, zS, zT, zU]
       refine tk 16 (v := ?_) hHeld (fun w hSw => ?_) ?_; rotate_left
       ·(try dsimp only at hSw); obtain ⟨s0, s1, s2⟩ := hSw; go_simp; try with_reducible rfl
       try simp only [zP, zN, zS, zT, zU]
       refine tk 17 (v := ?_) hHeld (fun w hSw => ?_) ?_; rotate_left
       ·(try dsimp only at hSw); obtain ⟨s0, s1, s2⟩ := hSw; go_simp; try with_reducible rfl
       try simp only [zP, zN, zS, zT, zU]
       refine tk 18 (v := ?_) hHeld (fun w hSw => ?_) ?_; rotate_left
       ·(try dsimp only at hSw); obtain ⟨s0, s1, s2⟩ := hSw; go_simp; try with_reducible rfl
       try simp only [zP, zN, zS, zT, zU]
       refine tk 19 (v := ?_) hHeld (fun w hSw => ?_) ?_; rotate_left
       ·(try dsimp only at hSw); obtain ⟨s0, s1, s2⟩ := hSw; go_simp; try with_reducible rfl
       try simp only [zP, zN, zS, zT, zU]
       refine tk 20 (v := ?_) hHeld (fun w hSw => ?_) ?_; rotate_left
       ·(try dsimp only at hSw); obtain ⟨s0, s1, s2⟩ := hSw; go_simp; try with_reducible rfl
       try simp only [zP, zN, zS, zT, zU]
       refine wpAnyH_ready (rs := [21]) (by kernel_rfl) (by simp) ?_
       refine AllReadyH.cons (o := ?ob218) ?hb218 (fun K hK => ?_) AllReadyH.nil
       case hb218 => simp only [zA, zB, zC] <;> exact rfl
       go_simp
       go_at_call 68
       refine (HKE.out _).mono ?_
       rintro e w2 ⟨rfl, g2⟩
       have hb2 := g2.heap (k := w.heap.size) HB1.out (fun h => h)
       have HB2 := Lib.hid hb2
       have HS2 := Lib.hid (boxP3 hb2)
       have F := Lib.hid (F1.out.then g2)
       clear g2 hb2
       go_wp2_with fail
       refine hK.out _ _ HS2.out (fun hHeld => ?_)
       clear hK K
       try simp only [zP, zN, zS, zT, zU]
       refine tk 22 (v := ?_) hHeld (fun w hSw => ?_) ?_; rotate_left
       ·(try dsimp only at hSw); obtain ⟨s0, s1, s2⟩ := hSw; go_simp; try with_reducible rfl
       try simp only [zP, zN, zS, zT, zU]
       refine tk 23 (v := ?_) hHeld (fun w hSw => ?_) ?_; rotate_left
       ·(try dsimp only at hSw); obtain ⟨s0, s1, s2⟩ := hSw; go_simp; try with_reducible rfl
       try simp only [zP, zN, zS, zT, zU]
       refine wpAnyH_done (by kernel_rfl) ?_ _
       obtain ⟨c0, c1, c2, c3, c4, c5, c6⟩ := boxP7 HB2.out
       go_wp2
       go_ret
       exact ⟨ret_bool (HFin.out _ (by simp [Q.out])).symm, F.out⟩
    ·have q3 : (d != kp) = true := by simpa using hd0
     have q3b : (d == kp) = false := by simpa using hd0
     have q3c : (d = kp) = False := eq_false hd0
     have Q := Lib.hid (And.intro ha (And.intro hb (hd0)))
     clear ha hb hd0 hn
     go_enter Tryz.func21, Tryz.ntmps21
     go_wp2_with fail
     refine wp_region_held_drew (S := (fun w' => w'.cell? ⟨w.heap.size, 0, none⟩ = some (.int .i64 k) ∧ w'.cell? ⟨w.heap.size, 1, none⟩ = some (.string (B d)) ∧ w'.cell? ⟨w.heap.size, 2, none⟩ = some (.string (B p)))) (by kernel_rfl) ?_ (fun hHeld => ?_)
     ·exact boxP3 ((Fp.refl Non _).drew.heap HF0.out.2 (fun h => h))
     refine tk 0 (v := ?_) hHeld (fun w hSw => ?_) ?_; rotate_left
     ·(try dsimp only at hSw); obtain ⟨s0, s1, s2⟩ := hSw; go_simp; try with_reducible rfl
     try simp only [zP, zN, zS, zT, zU]
     refine tk 1 (v := ?_) hHeld (fun w hSw => ?_) ?_; rotate_left
     ·(try dsimp only at hSw); obtain ⟨s0, s1, s2⟩ := hSw; go_simp; try with_reducible rfl
     try simp only [zP, zN, zS, zT, zU]
     refine tk 2 (v := ?_) hHeld (fun w hSw => ?_) ?_; rotate_left
     ·(try dsimp only at hSw); obtain ⟨s0, s1, s2⟩ := hSw; go_simp; try with_reducible rfl
     try simp only [zP, zN, zS, zT, zU]
     refine tk 3 (v := ?_) hHeld (fun w hSw => ?_) ?_; rotate_left
     ·(try dsimp only at hSw); obtain ⟨s0, s1, s2⟩ := hSw; go_simp; try with_reducible rfl
     try simp only [zP, zN, zS, zT, zU]
     refine tk 4 (v := ?_) hHeld (fun w hSw => ?_) ?_; rotate_left
     ·(try dsimp only at hSw); obtain ⟨s0, s1, s2⟩ := hSw; go_simp; try with_reducible rfl
     try simp only [zP, zN, zS, zT, zU]
     refine tk 5 (v := ?_) hHeld (fun w hSw => ?_) ?_; rotate_left
     ·(try dsimp only at hSw); obtain ⟨s0, s1, s2⟩ := hSw; go_simp; try with_reducible rfl
     try simp only [zP, zN, zS, zT, zU]
     refine tk 6 (v := ?_) hHeld (fun w hSw => ?_) ?_; rotate_left
     ·(try dsimp only at hSw); obtain ⟨s0, s1, s2⟩ := hSw; go_simp; try with_reducible rfl
     try simp only [zP, zN, zS, zT, zU]
     refine tk 7 (v := ?_) hHeld (fun w hSw => ?_) ?_; rotate_left
     ·(try dsimp only at hSw); obtain ⟨s0, s1, s2⟩ := hSw; go_simp; try with_reducible rfl
     try simp only [zP, zN, zS, zT, zU]
     refine tk 8 (v := ?_) hHeld (fun w hSw => ?_) ?_; rotate_left
     ·(try dsimp only at hSw); obtain ⟨s0, s1, s2⟩ := hSw; go_simp; try with_reducible rfl
     try simp only [zP, zN, zS, zT, zU]
     refine tk 9 (v := ?_) hHeld (fun w hSw => ?_) ?_; rotate_left
     ·(try dsimp only at hSw); obtain ⟨s0, s1, s2⟩ := hSw; go_simp; try with_reducible rfl
     try simp only [zP, zN, zS, zT, zU]
     refine tk 10 (v := ?_) hHeld (fun w hSw => ?_) ?_; rotate_left
     ·(try dsimp only at hSw); obtain ⟨s0, s1, s2⟩ := hSw; go_simp; try with_reducible rfl
     try simp only [zP, zN, zS, zT, zU]
     refine wpAnyH_ready (rs := [11]) (by kernel_rfl) (by simp) ?_
     refine AllReadyH.cons (o := ?ob232) ?hb232 (fun K hK => ?_) AllReadyH.nil
     case hb232 => simp only [zA, zB, zC] <;> exact rfl
     go_simp
     go_at_call 64
     refine (HR.out _).mono ?_
     rintro e w1 ⟨rfl, g1⟩
     have hb1 := g1.fp.heap (k := w.heap.size) ((Fp.refl Non _).drew.heap HF0.out.2 (fun h => h)) (fun h => h)
     have HB1 := Lib.hid hb1
     have HS1 := Lib.hid (boxP3 hb1)
     have F1 := Lib.hid (HF0.out.1.then (((Fp.refl Non _).drew).then g1.fp))
     clear g1 hb1
     go_wp2_with fail
     refine hK.out _ _ HS1.out (fun hHeld => ?_)
     clear hK K
     try simp only [zP, zN, zS, zT, zU]
     refine tk 12 (v := ?_) hHeld (fun w hSw => ?_) ?_; rotate_left
     ·(try dsimp only at hSw); obtain ⟨s0, s1, s2⟩ := hSw; go_simp; try with_reducible rfl
     try simp only [zP, zN, zS, zT, zU]
     refine tk 13 (v := ?_) hHeld (fun w hSw => ?_) ?_; rotate_left
     ·(try dsimp only at hSw); obtain ⟨s0, s1, s2⟩ := hSw; go_simp; try with_reducible rfl
     try simp only [zP, zN, zS, zT, zU]
     refine tk 14 (v := ?_) hHeld (fun w hSw => ?_) ?_; rotate_left
     ·(try dsimp only at hSw); obtain ⟨s0, s1, s2⟩ := hSw; go_simp; try with_reducible rfl
     try simp only [zP, zN, zS, zT, zU]
     refine tk 15 (v := ?_) hHeld (fun w hSw => ?_) ?_; rotate_left
     ·(try dsimp only at hSw); obtain ⟨s0, s1, s2⟩ := hSw; go_simp; try with_reducible rfl
     try simp only [zP, zN, zS, zT, zU]
     refine tk 16 (v := ?_) hHeld (fun w hSw => ?_) ?_; rotate_left
     ·(try dsimp only at hSw); obtain ⟨s0, s1, s2⟩ := hSw; go_simp; try with_reducible rfl
     try simp only [zP, zN, zS, zT, zU]
     refine tk 17 (v := ?_) hHeld (fun w hSw => ?_) ?_; rotate_left
     ·(try dsimp only at hSw); obtain ⟨s0, s1, s2⟩ := hSw; go_simp; try with_reducible rfl
     try simp only [zP, zN, zS, zT, zU]
     refine tk 18 (v := ?_) hHeld (fun w hSw => ?_) ?_; rotate_left
     ·(try dsimp only at hSw); obtain ⟨s0, s1, s2⟩ := hSw; go_simp; try with_reducible rfl
     try simp only [zP, zN, zS, zT, zU]
     refine tk 19 (v := ?_) hHeld (fun w hSw => ?_) ?_; rotate_left
     ·(try dsimp only at hSw); obtain ⟨s0, s1, s2⟩ := hSw; go_simp; try with_reducible rfl
     try simp only [zP, zN, zS, zT, zU]
     refine tk 20 (v := ?_) hHeld (fun w hSw => ?_) ?_; rotate_left
     ·(try dsimp only at hSw); obtain ⟨s0, s1, s2⟩ := hSw; go_simp; try with_reducible rfl
     try simp only [zP, zN, zS, zT, zU]
     refine wpAnyH_ready (rs := [21]) (by kernel_rfl) (by simp) ?_
     refine AllReadyH.cons (o := ?ob242) ?hb242 (fun K hK => ?_) AllReadyH.nil
     case hb242 => simp only [zA, zB, zC] <;> exact rfl
     go_simp
     go_at_call 68
     refine (HKE.out _).mono ?_
     rintro e w2 ⟨rfl, g2⟩
     have hb2 := g2.heap (k := w.heap.size) HB1.out (fun h => h)
     have HB2 := Lib.hid hb2
     have HS2 := Lib.hid (boxP3 hb2)
     have F := Lib.hid (F1.out.then g2)
     clear g2 hb2
     go_wp2_with fail
     refine hK.out _ _ HS2.out (fun hHeld => ?_)
     clear hK K
     try simp only [zP, zN, zS, zT, zU]
     refine tk 22 (v := ?_) hHeld (fun w hSw => ?_) ?_; rotate_left
     ·(try dsimp only at hSw); obtain ⟨s0, s1, s2⟩ := hSw; go_simp; try with_reducible rfl
     try simp only [zP, zN, zS, zT, zU]
     refine tk 23 (v := ?_) hHeld (fun w hSw => ?_) ?_; rotate_left
     ·(try dsimp only at hSw); obtain ⟨s0, s1, s2⟩ := hSw; go_simp; try with_reducible rfl
     try simp only [zP, zN, zS, zT, zU]
     refine wpAnyH_done (by kernel_rfl) ?_ _
     obtain ⟨c0, c1, c2, c3, c4, c5, c6⟩ := boxP7 HB2.out
     go_wp2
     go_ret
     exact ⟨ret_bool (HFin.out _ (by simp [Q.out])).symm, F.out⟩
  ·have q2 : ((11 : Int) ≤ k) = True := eq_true (by omega)
   have Q := Lib.hid (And.intro ha (hb))
   clear ha hb hn
   go_enter Tryz.func21, Tryz.ntmps21
   go_wp2_with fail
   refine wp_region_held_drew (S := (fun w' => w'.cell? ⟨w.heap.size, 0, none⟩ = some (.int .i64 k) ∧ w'.cell? ⟨w.heap.size, 1, none⟩ = some (.string (B d)) ∧ w'.cell? ⟨w.heap.size, 2, none⟩ = some (.string (B p)))) (by kernel_rfl) ?_ (fun hHeld => ?_)
   ·exact boxP3 ((Fp.refl Non _).drew.heap HF0.out.2 (fun h => h))
   refine tk 0 (v := ?_) hHeld (fun w hSw => ?_) ?_; rotate_left
   ·(try dsimp only at hSw); obtain ⟨s0, s1, s2⟩ := hSw; go_simp; try with_reducible rfl
   try simp only [zP, zN, zS, zT, zU]
   refine tk 1 (v := ?_) hHeld (fun w hSw => ?_) ?_; rotate_left
   ·(try dsimp only at hSw); obtain ⟨s0, s1, s2⟩ := hSw; go_simp; try with_reducible rfl
   try simp only [zP, zN, zS, zT, zU]
   refine tk 2 (v := ?_) hHeld (fun w hSw => ?_) ?_; rotate_left
   ·(try dsimp only at hSw); obtain ⟨s0, s1, s2⟩ := hSw; go_simp; try with_reducible rfl
   try simp only [zP, zN, zS, zT, zU]
   refine tk 3 (v := ?_) hHeld (fun w hSw => ?_) ?_; rotate_left
   ·(try dsimp only at hSw); obtain ⟨s0, s1, s2⟩ := hSw; go_simp; try with_reducible rfl
   try simp only [zP, zN, zS, zT, zU]
   refine tk 4 (v := ?_) hHeld (fun w hSw => ?_) ?_; rotate_left
   ·(try dsimp only at hSw); obtain ⟨s0, s1, s2⟩ := hSw; go_simp; try with_reducible rfl
   try simp only [zP, zN, zS, zT, zU]
   refine tk 5 (v := ?_) hHeld (fun w hSw => ?_) ?_; rotate_left
   ·(try dsimp only at hSw); obtain ⟨s0, s1, s2⟩ := hSw; go_simp; try with_reducible rfl
   try simp only [zP, zN, zS, zT, zU]
   refine tk 6 (v := ?_) hHeld (fun w hSw => ?_) ?_; rotate_left
   ·(try dsimp only at hSw); obtain ⟨s0, s1, s2⟩ := hSw; go_simp; try with_reducible rfl
   try simp only [zP, zN, zS, zT, zU]
   refine tk 7 (v := ?_) hHeld (fun w hSw => ?_) ?_; rotate_left
   ·(try dsimp only at hSw); obtain ⟨s0, s1, s2⟩ := hSw; go_simp; try with_reducible rfl
   try simp only [zP, zN, zS, zT, zU]
   refine tk 8 (v := ?_) hHeld (fun w hSw => ?_) ?_; rotate_left
   ·(try dsimp only at hSw); obtain ⟨s0, s1, s2⟩ := hSw; go_simp; try with_reducible rfl
   try simp only [zP, zN, zS, zT, zU]
   refine sk 9 hHeld ?_
   try simp only [zP, zN, zS, zT, zU]
   refine sk 10 hHeld ?_
   try simp only [zP, zN, zS, zT, zU]
   refine sk 11 hHeld ?_
   try simp only [zP, zN, zS, zT, zU]
   refine sk 12 hHeld ?_
   try simp only [zP, zN, zS, zT, zU]
   refine tk 13 (v := ?_) hHeld (fun w hSw => ?_) ?_; rotate_left
   ·(try dsimp only at hSw); obtain ⟨s0, s1, s2⟩ := hSw; go_simp; try with_reducible rfl
   try simp only [zP, zN, zS, zT, zU]
   refine tk 14 (v := ?_) hHeld (fun w hSw => ?_) ?_; rotate_left
   ·(try dsimp only at hSw); obtain ⟨s0, s1, s2⟩ := hSw; go_simp; try with_reducible rfl
   try simp only [zP, zN, zS, zT, zU]
   refine sk 15 hHeld ?_
   try simp only [zP, zN, zS, zT, zU]
   refine sk 16 hHeld ?_
   try simp only [zP, zN, zS, zT, zU]
   refine sk 17 hHeld ?_
   try simp only [zP, zN, zS, zT, zU]
   refine sk 18 hHeld ?_
   try simp only [zP, zN, zS, zT, zU]
   refine sk 19 hHeld ?_
   try simp only [zP, zN, zS, zT, zU]
   refine sk 20 hHeld ?_
   try simp only [zP, zN, zS, zT, zU]
   refine sk 21 hHeld ?_
   try simp only [zP, zN, zS, zT, zU]
   refine sk 22 hHeld ?_
   try simp only [zP, zN, zS, zT, zU]
   refine tk 23 (v := ?_) hHeld (fun w hSw => ?_) ?_; rotate_left
   ·(try dsimp only at hSw); obtain ⟨s0, s1, s2⟩ := hSw; go_simp; try with_reducible rfl
   try simp only [zP, zN, zS, zT, zU]
   refine wpAnyH_done (by kernel_rfl) ?_ _
   go_wp2
   go_ret
   exact ⟨ret_bool (HFin.out _ (by have h := Q.out; have e : (decide (1 ≤ k) && decide (k ≤ 10)) = false := (by rw [Bool.and_eq_false_iff, decide_eq_false_iff_not, decide_eq_false_iff_not]; omega); rw [e]; rfl)).symm, HF0.out.1.then (Fp.refl Non _).drew⟩
 ·have q1 : (k < (1 : Int)) = True := eq_true (by omega)
  have Q := Lib.hid (ha)
  clear ha hn
  go_enter Tryz.func21, Tryz.ntmps21
  go_wp2_with fail
  refine wp_region_held_drew (S := (fun w' => w'.cell? ⟨w.heap.size, 0, none⟩ = some (.int .i64 k) ∧ w'.cell? ⟨w.heap.size, 1, none⟩ = some (.string (B d)) ∧ w'.cell? ⟨w.heap.size, 2, none⟩ = some (.string (B p)))) (by kernel_rfl) ?_ (fun hHeld => ?_)
  ·exact boxP3 ((Fp.refl Non _).drew.heap HF0.out.2 (fun h => h))
  refine tk 0 (v := ?_) hHeld (fun w hSw => ?_) ?_; rotate_left
  ·(try dsimp only at hSw); obtain ⟨s0, s1, s2⟩ := hSw; go_simp; try with_reducible rfl
  try simp only [zP, zN, zS, zT, zU]
  refine tk 1 (v := ?_) hHeld (fun w hSw => ?_) ?_; rotate_left
  ·(try dsimp only at hSw); obtain ⟨s0, s1, s2⟩ := hSw; go_simp; try with_reducible rfl
  try simp only [zP, zN, zS, zT, zU]
  refine tk 2 (v := ?_) hHeld (fun w hSw => ?_) ?_; rotate_left
  ·(try dsimp only at hSw); obtain ⟨s0, s1, s2⟩ := hSw; go_simp; try with_reducible rfl
  try simp only [zP, zN, zS, zT, zU]
  refine tk 3 (v := ?_) hHeld (fun w hSw => ?_) ?_; rotate_left
  ·(try dsimp only at hSw); obtain ⟨s0, s1, s2⟩ := hSw; go_simp; try with_reducible rfl
  try simp only [zP, zN, zS, zT, zU]
  refine sk 4 hHeld ?_
  try simp only [zP, zN, zS, zT, zU]
  refine sk 5 hHeld ?_
  try simp only [zP, zN, zS, zT, zU]
  refine sk 6 hHeld ?_
  try simp only [zP, zN, zS, zT, zU]
  refine tk 7 (v := ?_) hHeld (fun w hSw => ?_) ?_; rotate_left
  ·(try dsimp only at hSw); obtain ⟨s0, s1, s2⟩ := hSw; go_simp; try with_reducible rfl
  try simp only [zP, zN, zS, zT, zU]
  refine tk 8 (v := ?_) hHeld (fun w hSw => ?_) ?_; rotate_left
  ·(try dsimp only at hSw); obtain ⟨s0, s1, s2⟩ := hSw; go_simp; try with_reducible rfl
  try simp only [zP, zN, zS, zT, zU]
  refine sk 9 hHeld ?_
  try simp only [zP, zN, zS, zT, zU]
  refine sk 10 hHeld ?_
  try simp only [zP, zN, zS, zT, zU]
  refine sk 11 hHeld ?_
  try simp only [zP, zN, zS, zT, zU]
  refine sk 12 hHeld ?_
  try simp only [zP, zN, zS, zT, zU]
  refine tk 13 (v := ?_) hHeld (fun w hSw => ?_) ?_; rotate_left
  ·(try dsimp only at hSw); obtain ⟨s0, s1, s2⟩ := hSw; go_simp; try with_reducible rfl
  try simp only [zP, zN, zS, zT, zU]
  refine tk 14 (v := ?_) hHeld (fun w hSw => ?_) ?_; rotate_left
  ·(try dsimp only at hSw); obtain ⟨s0, s1, s2⟩ := hSw; go_simp; try with_reducible rfl
  try simp only [zP, zN, zS, zT, zU]
  refine sk 15 hHeld ?_
  try simp only [zP, zN, zS, zT, zU]
  refine sk 16 hHeld ?_
  try simp only [zP, zN, zS, zT, zU]
  refine sk 17 hHeld ?_
  try simp only [zP, zN, zS, zT, zU]
  refine sk 18 hHeld ?_
  try simp only [zP, zN, zS, zT, zU]
  refine sk 19 hHeld ?_
  try simp only [zP, zN, zS, zT, zU]
  refine sk 20 hHeld ?_
  try simp only [zP, zN, zS, zT, zU]
  refine sk 21 hHeld ?_
  try simp only [zP, zN, zS, zT, zU]
  refine sk 22 hHeld ?_
  try simp only [zP, zN, zS, zT, zU]
  refine tk 23 (v := ?_) hHeld (fun w hSw => ?_) ?_; rotate_left
  ·(try dsimp only at hSw); obtain ⟨s0, s1, s2⟩ := hSw; go_simp; try with_reducible rfl
  try simp only [zP, zN, zS, zT, zU]
  refine wpAnyH_done (by kernel_rfl) ?_ _
  go_wp2
  go_ret
  exact ⟨ret_bool (HFin.out _ (by have h := Q.out; have e : (decide (1 ≤ k) && decide (k ≤ 10)) = false := (by rw [Bool.and_eq_false_iff, decide_eq_false_iff_not, decide_eq_false_iff_not]; omega); rw [e]; rfl)).symm, HF0.out.1.then (Fp.refl Non _).drew⟩
end Go.Proofs.YtphoglepiegeiaaGreatDoor
