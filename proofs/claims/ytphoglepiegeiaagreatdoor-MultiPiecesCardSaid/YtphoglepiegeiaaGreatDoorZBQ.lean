/- A text of this proof. -/
import Derived.Test.YtphoglepiegeiaaGreatDoorZBD
import Derived.Test.YtphoglepiegeiaaGreatDoorZBG
import Derived.Test.YtphoglepiegeiaaGreatDoorZBI
import Derived.Test.YtphoglepiegeiaaGreatDoorZBJ
import Derived.Test.YtphoglepiegeiaaGreatDoorZBP
set_option linter.unusedSimpArgs false
set_option linter.unusedVariables false
namespace Go.Proofs.YtphoglepiegeiaaGreatDoor
set_option maxRecDepth 20000
open Go.RowKit Pm
set_option maxHeartbeats 4000000 in
theorem Apply_f (v : Value) (l : List Nd) (o : Opn) (w : World) (hv : Ns w v l) (hs : Sp l) (hp : o.path.length ≤ 1000000) (ht : Tab w) :
  Calls Tryz.prog 52 #[v, opV o] w (ApS w v (apply l o).1 (apply l o).2) := by
 by_cases hrm : right l = true ∧ may o = true
 ·rw [apply_yes ((right_iff l).1 hrm.1).tr hrm.2]
  obtain ⟨kk, p, d, vv, ow, t⟩ := o
  exact Apply_go v l kk p d vv ow t w hv hs hrm.1 hrm.2 ht
 rw [apply_no hrm]
 have hrc := fun w1 (f : Fp Non w w1) => nRight_c v l w1 (hv.non f) hs
 have hmc := fun w1 => May_c o w1 hp
 obtain ⟨ao, cap, rfl⟩ := hv.shape
 obtain ⟨kk, p, d, vv, ow, t⟩ := o
 obtain ⟨br, hbr⟩ : ∃ br, right l = br := ⟨_, rfl⟩
 obtain ⟨bm, hbm⟩ : ∃ bm, may ⟨kk, p, d, vv, ow, t⟩ = bm := ⟨_, rfl⟩
 rw [hbr] at hrc
 rw [hbm] at hmc
 rw [hbr, hbm] at hrm
 generalize l.length = n at *
 unfold opV strV at hmc ⊢
 simp only at hmc ⊢
 have hbx := Bx.made w kk p d vv ow t
 have hf0 : Fp Non w ((w.alloc (.cells #[.int .i64 kk, .string (B p), .string (B d), .int .i64 vv, .int .i64 ow, .bool t] TO_)).alloc (.cells #[.int .i64 0, .string ⟨#[]⟩, .string ⟨#[]⟩, .int .i64 0, .slice none 0 0] TR)) := ((Fp.refl Non w).alloc _).alloc _
 have HX := Lib.hid (And.intro hbx hf0)
 have HA := Lib.hid (And.intro hrc hmc)
 clear hbx hf0 hs ht hrc hmc hv hp hbr hbm
 cases br with
 | false =>
  clear hrm
  go_enter Tryz.func52, Tryz.ntmps52
  generalize hW0 : ((w.alloc (.cells #[.int .i64 kk, .string (B p), .string (B d), .int .i64 vv, .int .i64 ow, .bool t] TO_)).alloc (.cells #[.int .i64 0, .string ⟨#[]⟩, .string ⟨#[]⟩, .int .i64 0, .slice none 0 0] TR)) = W0 at *
  go_wp2_with fail
  clear hW0
  refine (HA.out.1 _ HX.out.2).mono ?_
  rintro e w1 ⟨rfl, hf1⟩
  have F1 := Lib.hid (And.intro (HX.out.2.then hf1) hf1)
  clear hf1
  go_wp2_with fail
  refine (refused_c 1 _).mono ?_
  rintro e w9 ⟨rfl, hf9⟩
  have hb9 := HX.out.1.non (F1.out.2.then hf9)
  have HF9 := Lib.hid (F1.out.1.then hf9)
  obtain ⟨r0, r1, r2, r3, r4⟩ := (hb9).r
  have z0 := (hb9).fz 0; have z1 := (hb9).fz 1; have z2 := (hb9).fz 2; have z3 := (hb9).fz 3; have z4 := (hb9).fz 4
  have HE := Lib.hid hb9.res
  clear hf9 hb9
  unfold badV
  generalize w9 = W9 at *
  go_wp2
  have hw9 := set5 HE.out (.int .i64 1) (.string ⟨#[]⟩) (.string ⟨#[]⟩) (.int .i64 0) (.slice none 0 0)
  have hfz := fp5 (S := Non) HF9.out (b := w.heap.size + 1) (.inr (by omega)) (.int .i64 1) (.string ⟨#[]⟩) (.string ⟨#[]⟩) (.int .i64 0) (.slice none 0 0)
  generalize (((((World.setCell W9 _ _).setCell _ _).setCell _ _).setCell _ _).setCell _ _) = wz at *
  obtain ⟨s0, s1, s2, s3, s4⟩ := b5 hw9
  exact bodyPost_ret (v := .tuple #[.slice none 0 0, .agg #[.int .i64 1, .string ⟨#[]⟩, .string ⟨#[]⟩, .int .i64 0, .slice none 0 0]]) (by simp [results, Tryz.results52, go_sem, s0, s1, s2, s3, s4]) rfl ⟨⟨_, _, rfl, Ns.nil _, Own.nil _ _, .inr (fun k hk => by simp [Value.ownBlock] at hk)⟩, hfz⟩
 | true => ?_
 obtain rfl : bm = false := by
  cases bm with
  | false => rfl
  | true => exact absurd ⟨rfl, rfl⟩ hrm
 clear hrm
 go_enter Tryz.func52, Tryz.ntmps52
 generalize hW0 : ((w.alloc (.cells #[.int .i64 kk, .string (B p), .string (B d), .int .i64 vv, .int .i64 ow, .bool t] TO_)).alloc (.cells #[.int .i64 0, .string ⟨#[]⟩, .string ⟨#[]⟩, .int .i64 0, .slice none 0 0] TR)) = W0 at *
 go_wp2_with fail
 clear hW0
 refine (HA.out.1 _ HX.out.2).mono ?_
 rintro e w1 ⟨rfl, hf1⟩
 have F1 := Lib.hid (And.intro (HX.out.2.then hf1) hf1)
 obtain ⟨o0, o1, o2, o3, o4, o5⟩ := box6 (hf1.heap HX.out.1.op id)
 clear hf1
 go_wp2_with fail
 refine (HA.out.2 _).mono ?_
 rintro e w2 ⟨rfl, hf2⟩
 have F2 := Lib.hid (And.intro (F1.out.1.then hf2) (F1.out.2.then hf2))
 clear hf2 F1 o0 o1 o2 o3 o4 o5
 go_wp2_with fail
 refine (refused_c 1 _).mono ?_
 rintro e w9 ⟨rfl, hf9⟩
 have hb9 := HX.out.1.non (F2.out.2.then hf9)
 have HF9 := Lib.hid (F2.out.1.then hf9)
 obtain ⟨r0, r1, r2, r3, r4⟩ := (hb9).r
 have z0 := (hb9).fz 0; have z1 := (hb9).fz 1; have z2 := (hb9).fz 2; have z3 := (hb9).fz 3; have z4 := (hb9).fz 4
 have HE := Lib.hid hb9.res
 clear hf9 hb9
 unfold badV
 generalize w9 = W9 at *
 go_wp2
 have hw9 := set5 HE.out (.int .i64 1) (.string ⟨#[]⟩) (.string ⟨#[]⟩) (.int .i64 0) (.slice none 0 0)
 have hfz := fp5 (S := Non) HF9.out (b := w.heap.size + 1) (.inr (by omega)) (.int .i64 1) (.string ⟨#[]⟩) (.string ⟨#[]⟩) (.int .i64 0) (.slice none 0 0)
 generalize (((((World.setCell W9 _ _).setCell _ _).setCell _ _).setCell _ _).setCell _ _) = wz at *
 obtain ⟨s0, s1, s2, s3, s4⟩ := b5 hw9
 exact bodyPost_ret (v := .tuple #[.slice none 0 0, .agg #[.int .i64 1, .string ⟨#[]⟩, .string ⟨#[]⟩, .int .i64 0, .slice none 0 0]]) (by simp [results, Tryz.results52, go_sem, s0, s1, s2, s3, s4]) rfl ⟨⟨_, _, rfl, Ns.nil _, Own.nil _ _, .inr (fun k hk => by simp [Value.ownBlock] at hk)⟩, hfz⟩
theorem Apply_c (v : Value) (l : List Nd) (o : Opn) (w : World) (hv : Ns w v l) (hs : Sp l) (hp : o.path.length ≤ 1000000) (ht : Tab w) :
  Calls Tryz.prog 52 #[v, opV o] w (ApR w (apply l o).1 (apply l o).2) := (Apply_f v l o w hv hs hp ht).mono fun _ _ h => h.apR
abbrev TP : TypeId := 27
def ptC (x : Pt) : List Value := [.int .i64 x.kind, strV x.dir, strV x.path, strV x.data, .int .i64 x.ver, .int .i64 x.own, .bool x.turns]
def ptV (x : Pt) : Value := .agg #[.int .i64 x.kind, strV x.dir, strV x.path, strV x.data, .int .i64 x.ver, .int .i64 x.own, .bool x.turns]
theorem boxP7 {w : World} {b : Nat} {T : TypeId} {c0 c1 c2 c3 c4 c5 c6 : Value} (h : w.heap[b]? = some (.cells #[c0, c1, c2, c3, c4, c5, c6] T (0, 0))) :
  w.cell? ⟨b, 0, none⟩ = some c0 ∧ w.cell? ⟨b, 1, none⟩ = some c1 ∧ w.cell? ⟨b, 2, none⟩ = some c2 ∧ w.cell? ⟨b, 3, none⟩ = some c3 ∧ w.cell? ⟨b, 4, none⟩ = some c4 ∧ w.cell? ⟨b, 5, none⟩ = some c5 ∧ w.cell? ⟨b, 6, none⟩ = some c6 :=
 ⟨by rw [cell_of_row _ _ _ _ _ _ h]; rfl, by rw [cell_of_row _ _ _ _ _ _ h]; rfl, by rw [cell_of_row _ _ _ _ _ _ h]; rfl, by rw [cell_of_row _ _ _ _ _ _ h]; rfl, by rw [cell_of_row _ _ _ _ _ _ h]; rfl, by rw [cell_of_row _ _ _ _ _ _ h]; rfl, by rw [cell_of_row _ _ _ _ _ _ h]; rfl⟩
theorem boxP3 {w : World} {b : Nat} {T : TypeId} {c0 c1 c2 c3 c4 c5 c6 : Value} (h : w.heap[b]? = some (.cells #[c0, c1, c2, c3, c4, c5, c6] T (0, 0))) :
  w.cell? ⟨b, 0, none⟩ = some c0 ∧ w.cell? ⟨b, 1, none⟩ = some c1 ∧ w.cell? ⟨b, 2, none⟩ = some c2 := ⟨(boxP7 h).1, (boxP7 h).2.1, (boxP7 h).2.2.1⟩
set_option maxHeartbeats 8000000 in
theorem mayP_c (x : Pt) (w : World) (hl : x.path.length ≤ 1000000) :
  Calls Tryz.prog 21 #[ptV x] w fun e w' => e = .returned (.bool (mayP x)) ∧ Fp Non w w' := by
 have hri := fun w => Right_g x.path w (sz_of hl (by omega))
 have hke := fun w => keptAt_c x.kind x.path w hl
 obtain ⟨k, d, p, da, v, o, t⟩ := x
 obtain ⟨sp, hsp⟩ : ∃ b, (split p).isSome = b := ⟨_, rfl⟩
 obtain ⟨kp, hkp⟩ : ∃ b, keptAt k p = b := ⟨_, rfl⟩
 simp only at hri hke
 rw [hsp] at hri
 rw [hkp] at hke
 obtain ⟨b1, h1⟩ : ∃ r, decide ((-1 : Int) ≤ v ∧ v ≤ 281474976710656) = r := ⟨_, rfl⟩
 obtain ⟨b3, h3⟩ : ∃ r, decide ((0 : Int) ≤ o ∧ o ≤ 1099511627776) = r := ⟨_, rfl⟩
 obtain ⟨n, hn⟩ : ∃ n, n = da.length := ⟨_, rfl⟩
 have W1 := Lib.hid (fun w => withinP_d v (-1) 281474976710656 w b1 h1)
 have W3 := Lib.hid (fun w => withinP_d o 0 1099511627776 w b3 h3)
 obtain ⟨r, hr⟩ : ∃ r, mayP ⟨k, d, p, da, v, o, t⟩ = r := ⟨_, rfl⟩
 have key : r = (decide (1 ≤ k) && decide (k ≤ 10) && sp && decide (d = kp) && !(decide (k = 2) && decide (p = [47])) && decide (n ≤ 256) && b1 && b3) := by
  rw [← hr, ← hsp, ← h1, ← h3, hn, ← hkp]
  by_cases a1 : p = [47] <;> by_cases a2 : k = 2 <;> (rw [Bool.eq_iff_iff, mayP_iff]; simp [a1, a2, and_assoc])
 have HR := Lib.hid hri
 have HKE := Lib.hid hke
 have HFin := Lib.hid (show ∀ c : Bool, (decide (1 ≤ k) && decide (k ≤ 10) && sp && decide (d = kp) && !(decide (k = 2) && decide (p = [47])) && decide (n ≤ 256) && b1 && b3) = c → r = c from fun c h => by rw [key, h])
 rw [hr]
 have hf0 := fp_alloc w (.cells #[.int .i64 k, .string (B d), .string (B p), .string (B da), .int .i64 v, .int .i64 o, .bool t] TP)
 have hb0 := heap_alloc_new w (.cells #[.int .i64 k, .string (B d), .string (B p), .string (B da), .int .i64 v, .int .i64 o, .bool t] TP)
 have HF0 := Lib.hid (And.intro hf0 hb0)
 unfold ptV strV
 clear hri hke hsp hkp h1 h3 hr key hl hf0 hb0
 by_cases ha : 1 ≤ k
 ·have q1 : (k < (1 : Int)) = False := eq_false (by omega)
  by_cases hb : k ≤ 10
  ·have q2 : ((11 : Int) ≤ k) = False := eq_false (by omega)
   cases sp with
   | false =>
    have Q := Lib.hid (And.intro ha (hb))
    clear ha hb hn
    go_enter Tryz.func21, Tryz.ntmps21
    go_wp2_with fail
    refine wp_region_held_drew (S := (fun w' => w'.cell? ⟨w.heap.size, 0, none⟩ = some (.int .i64 k) ∧ w'.cell? ⟨w.heap.size, 1, none⟩ = some (.string (B d)) ∧ w'.cell? ⟨w.heap.size, 2, none⟩ = some (.string (B p)))) (by kernel_rfl) ?_ (fun hH => ?_)
    ·exact boxP3 ((Fp.refl Non _).drew.heap HF0.out.2 id)
    refine tk 0 hH ?_
    refine tk 1 hH ?_
    refine tk 2 hH ?_
    refine tk 3 hH ?_
    refine tk 4 hH ?_
    refine tk 5 hH ?_
    refine tk 6 hH ?_
    refine tk 7 hH ?_
    refine tk 8 hH ?_
    refine tk 9 hH ?_
    refine tk 10 hH ?_
    refine rY 11 fun K hK => ?_
    go_simp
    go_at_call 64
    refine (HR.out _).mono ?_
    rintro e w1 ⟨rfl, g1⟩
    have hb1 := g1.fp.heap (k := w.heap.size) ((Fp.refl Non _).drew.heap HF0.out.2 id) id
    have HB1 := Lib.hid hb1
    have HS1 := Lib.hid (boxP3 hb1)
    have F1 := Lib.hid (HF0.out.1.then (((Fp.refl Non _).drew).then g1.fp))
    clear g1 hb1
    go_wp2_with fail
    refine hK.out _ _ HS1.out (fun hH => ?_)
    clear hK K
    try simp only [zz]
    refine tk 12 hH ?_
    refine tk 13 hH ?_
    refine tk 14 hH ?_
    refine sk 15 hH ?_
    refine sk 16 hH ?_
    refine sk 17 hH ?_
    refine sk 18 hH ?_
    refine sk 19 hH ?_
    refine sk 20 hH ?_
    refine sk 21 hH ?_
    refine sk 22 hH ?_
    refine tk 23 hH ?_
    refine dn ?_
    go_wp2
    go_ret
    exact ⟨ret_bool (HFin.out _ (by simp [Q.out])).symm, F1.out⟩
   | true => ?_
   by_cases hd0 : d = kp
   ·have q3 : (d != kp) = false := by simpa using hd0
    have q3b : (d == kp) = true := by simpa using hd0
    have q3c : (d = kp) = True := eq_true hd0
    by_cases h2 : k = 2
    ·have q4 : (k == 2) = true := by simpa using h2
     have q4b : (k = 2) = True := eq_true h2
     by_cases hp : p = [47]
     ·have q7 : (p == [47]) = true := by simpa using hp
      have q7b : (p = [47]) = True := eq_true hp
      have Q := Lib.hid (And.intro ha (And.intro hb (And.intro hd0 (And.intro h2 (hp)))))
      clear ha hb hd0 h2 hp hn
      go_enter Tryz.func21, Tryz.ntmps21
      go_wp2_with fail
      refine wp_region_held_drew (S := (fun w' => w'.cell? ⟨w.heap.size, 0, none⟩ = some (.int .i64 k) ∧ w'.cell? ⟨w.heap.size, 1, none⟩ = some (.string (B d)) ∧ w'.cell? ⟨w.heap.size, 2, none⟩ = some (.string (B p)))) (by kernel_rfl) ?_ (fun hH => ?_)
      ·exact boxP3 ((Fp.refl Non _).drew.heap HF0.out.2 id)
      refine tk 0 hH ?_
      refine tk 1 hH ?_
      refine tk 2 hH ?_
      refine tk 3 hH ?_
      refine tk 4 hH ?_
      refine tk 5 hH ?_
      refine tk 6 hH ?_
      refine tk 7 hH ?_
      refine tk 8 hH ?_
      refine tk 9 hH ?_
      refine tk 10 hH ?_
      refine rY 11 fun K hK => ?_
      go_simp
      go_at_call 64
      refine (HR.out _).mono ?_
      rintro e w1 ⟨rfl, g1⟩
      have hb1 := g1.fp.heap (k := w.heap.size) ((Fp.refl Non _).drew.heap HF0.out.2 id) id
      have HB1 := Lib.hid hb1
      have HS1 := Lib.hid (boxP3 hb1)
      have F1 := Lib.hid (HF0.out.1.then (((Fp.refl Non _).drew).then g1.fp))
      clear g1 hb1
      go_wp2_with fail
      refine hK.out _ _ HS1.out (fun hH => ?_)
      clear hK K
      try simp only [zz]
      refine tk 12 hH ?_
      refine tk 13 hH ?_
      refine tk 14 hH ?_
      refine tk 15 hH ?_
      refine tk 16 hH ?_
      refine tk 17 hH ?_
      refine tk 18 hH ?_
      refine tk 19 hH ?_
      refine tk 20 hH ?_
      refine rY 21 fun K hK => ?_
      go_simp
      go_at_call 68
      refine (HKE.out _).mono ?_
      rintro e w2 ⟨rfl, g2⟩
      have hb2 := g2.heap (k := w.heap.size) HB1.out id
      have HB2 := Lib.hid hb2
      have HS2 := Lib.hid (boxP3 hb2)
      have F := Lib.hid (F1.out.then g2)
      clear g2 hb2
      go_wp2_with fail
      refine hK.out _ _ HS2.out (fun hH => ?_)
      clear hK K
      try simp only [zz]
      refine tk 22 hH ?_
      refine tk 23 hH ?_
      refine dn ?_
      obtain ⟨c0, c1, c2, c3, c4, c5, c6⟩ := boxP7 HB2.out
      go_wp2
      go_ret
      exact ⟨ret_bool (HFin.out _ (by simp [Q.out])).symm, F.out⟩
     have q7 : (p == [47]) = false := by simpa using hp
     have q7b : (p = [47]) = False := eq_false hp
     by_cases hd : n ≤ 256
     ·have q5 : ((256 : Int) < (da.length : Int)) = False := eq_false (by omega)
      have q6 : ((da.length : Int) ≤ (256 : Int)) = True := eq_true (by omega)
      have Q := Lib.hid (And.intro ha (And.intro hb (And.intro hd0 (And.intro h2 (And.intro hp (hd))))))
      clear ha hb hd0 h2 hp hd hn
      go_enter Tryz.func21, Tryz.ntmps21
      go_wp2_with fail
      refine wp_region_held_drew (S := (fun w' => w'.cell? ⟨w.heap.size, 0, none⟩ = some (.int .i64 k) ∧ w'.cell? ⟨w.heap.size, 1, none⟩ = some (.string (B d)) ∧ w'.cell? ⟨w.heap.size, 2, none⟩ = some (.string (B p)))) (by kernel_rfl) ?_ (fun hH => ?_)
      ·exact boxP3 ((Fp.refl Non _).drew.heap HF0.out.2 id)
      refine tk 0 hH ?_
      refine tk 1 hH ?_
      refine tk 2 hH ?_
      refine tk 3 hH ?_
      refine tk 4 hH ?_
      refine tk 5 hH ?_
      refine tk 6 hH ?_
      refine tk 7 hH ?_
      refine tk 8 hH ?_
      refine tk 9 hH ?_
      refine tk 10 hH ?_
      refine rY 11 fun K hK => ?_
      go_simp
      go_at_call 64
      refine (HR.out _).mono ?_
      rintro e w1 ⟨rfl, g1⟩
      have hb1 := g1.fp.heap (k := w.heap.size) ((Fp.refl Non _).drew.heap HF0.out.2 id) id
      have HB1 := Lib.hid hb1
      have HS1 := Lib.hid (boxP3 hb1)
      have F1 := Lib.hid (HF0.out.1.then (((Fp.refl Non _).drew).then g1.fp))
      clear g1 hb1
      go_wp2_with fail
      refine hK.out _ _ HS1.out (fun hH => ?_)
      clear hK K
      try simp only [zz]
      refine tk 12 hH ?_
      refine tk 13 hH ?_
      refine tk 14 hH ?_
      refine tk 15 hH ?_
      refine tk 16 hH ?_
      refine tk 17 hH ?_
      refine tk 18 hH ?_
      refine tk 19 hH ?_
      refine tk 20 hH ?_
      refine rY 21 fun K hK => ?_
      go_simp
      go_at_call 68
      refine (HKE.out _).mono ?_
      rintro e w2 ⟨rfl, g2⟩
      have hb2 := g2.heap (k := w.heap.size) HB1.out id
      have HB2 := Lib.hid hb2
      have HS2 := Lib.hid (boxP3 hb2)
      have F := Lib.hid (F1.out.then g2)
      clear g2 hb2
      go_wp2_with fail
      refine hK.out _ _ HS2.out (fun hH => ?_)
      clear hK K
      try simp only [zz]
      refine tk 22 hH ?_
      refine tk 23 hH ?_
      refine dn ?_
      obtain ⟨c0, c1, c2, c3, c4, c5, c6⟩ := boxP7 HB2.out
      cases b1 <;> cases b3
      all_goals
       go_wp2_with (first
        | (go_at_call_of 65 v; refine (W1.out _).mono ?_; rintro e w3 ⟨rfl, rfl⟩)
        | (go_at_call_of 65 o; refine (W3.out _).mono ?_; rintro e w3 ⟨rfl, rfl⟩))
       go_ret
       exact ⟨ret_bool (HFin.out _ (by simp [Q.out])).symm, F.out⟩
     have q5 : ((256 : Int) < (da.length : Int)) = True := eq_true (by omega)
     have q6 : ((da.length : Int) ≤ (256 : Int)) = False := eq_false (by omega)
     have Q := Lib.hid (And.intro ha (And.intro hb (And.intro hd0 (And.intro h2 (And.intro hp (hd))))))
     clear ha hb hd0 h2 hp hd hn
     go_enter Tryz.func21, Tryz.ntmps21
     go_wp2_with fail
     refine wp_region_held_drew (S := (fun w' => w'.cell? ⟨w.heap.size, 0, none⟩ = some (.int .i64 k) ∧ w'.cell? ⟨w.heap.size, 1, none⟩ = some (.string (B d)) ∧ w'.cell? ⟨w.heap.size, 2, none⟩ = some (.string (B p)))) (by kernel_rfl) ?_ (fun hH => ?_)
     ·exact boxP3 ((Fp.refl Non _).drew.heap HF0.out.2 id)
     refine tk 0 hH ?_
     refine tk 1 hH ?_
     refine tk 2 hH ?_
     refine tk 3 hH ?_
     refine tk 4 hH ?_
     refine tk 5 hH ?_
     refine tk 6 hH ?_
     refine tk 7 hH ?_
     refine tk 8 hH ?_
     refine tk 9 hH ?_
     refine tk 10 hH ?_
     refine rY 11 fun K hK => ?_
     go_simp
     go_at_call 64
     refine (HR.out _).mono ?_
     rintro e w1 ⟨rfl, g1⟩
     have hb1 := g1.fp.heap (k := w.heap.size) ((Fp.refl Non _).drew.heap HF0.out.2 id) id
     have HB1 := Lib.hid hb1
     have HS1 := Lib.hid (boxP3 hb1)
     have F1 := Lib.hid (HF0.out.1.then (((Fp.refl Non _).drew).then g1.fp))
     clear g1 hb1
     go_wp2_with fail
     refine hK.out _ _ HS1.out (fun hH => ?_)
     clear hK K
     try simp only [zz]
     refine tk 12 hH ?_
     refine tk 13 hH ?_
     refine tk 14 hH ?_
     refine tk 15 hH ?_
     refine tk 16 hH ?_
     refine tk 17 hH ?_
     refine tk 18 hH ?_
     refine tk 19 hH ?_
     refine tk 20 hH ?_
     refine rY 21 fun K hK => ?_
     go_simp
     go_at_call 68
     refine (HKE.out _).mono ?_
     rintro e w2 ⟨rfl, g2⟩
     have hb2 := g2.heap (k := w.heap.size) HB1.out id
     have HB2 := Lib.hid hb2
     have HS2 := Lib.hid (boxP3 hb2)
     have F := Lib.hid (F1.out.then g2)
     clear g2 hb2
     go_wp2_with fail
     refine hK.out _ _ HS2.out (fun hH => ?_)
     clear hK K
     try simp only [zz]
     refine tk 22 hH ?_
     refine tk 23 hH ?_
     refine dn ?_
     obtain ⟨c0, c1, c2, c3, c4, c5, c6⟩ := boxP7 HB2.out
     go_wp2
     go_ret
     exact ⟨ret_bool (HFin.out _ (by simp [Q.out])).symm, F.out⟩
    have q4 : (k == 2) = false := by simpa using h2
    have q4b : (k = 2) = False := eq_false h2
    by_cases hd : n ≤ 256
    ·have q5 : ((256 : Int) < (da.length : Int)) = False := eq_false (by omega)
     have q6 : ((da.length : Int) ≤ (256 : Int)) = True := eq_true (by omega)
     have Q := Lib.hid (And.intro ha (And.intro hb (And.intro hd0 (And.intro h2 (hd)))))
     clear ha hb hd0 h2 hd hn
     go_enter Tryz.func21, Tryz.ntmps21
     go_wp2_with fail
     refine wp_region_held_drew (S := (fun w' => w'.cell? ⟨w.heap.size, 0, none⟩ = some (.int .i64 k) ∧ w'.cell? ⟨w.heap.size, 1, none⟩ = some (.string (B d)) ∧ w'.cell? ⟨w.heap.size, 2, none⟩ = some (.string (B p)))) (by kernel_rfl) ?_ (fun hH => ?_)
     ·exact boxP3 ((Fp.refl Non _).drew.heap HF0.out.2 id)
     refine tk 0 hH ?_
     refine tk 1 hH ?_
     refine tk 2 hH ?_
     refine tk 3 hH ?_
     refine tk 4 hH ?_
     refine tk 5 hH ?_
     refine tk 6 hH ?_
     refine tk 7 hH ?_
     refine tk 8 hH ?_
     refine tk 9 hH ?_
     refine tk 10 hH ?_
     refine rY 11 fun K hK => ?_
     go_simp
     go_at_call 64
     refine (HR.out _).mono ?_
     rintro e w1 ⟨rfl, g1⟩
     have hb1 := g1.fp.heap (k := w.heap.size) ((Fp.refl Non _).drew.heap HF0.out.2 id) id
     have HB1 := Lib.hid hb1
     have HS1 := Lib.hid (boxP3 hb1)
     have F1 := Lib.hid (HF0.out.1.then (((Fp.refl Non _).drew).then g1.fp))
     clear g1 hb1
     go_wp2_with fail
     refine hK.out _ _ HS1.out (fun hH => ?_)
     clear hK K
     try simp only [zz]
     refine tk 12 hH ?_
     refine tk 13 hH ?_
     refine tk 14 hH ?_
     refine tk 15 hH ?_
     refine tk 16 hH ?_
     refine tk 17 hH ?_
     refine tk 18 hH ?_
     refine tk 19 hH ?_
     refine tk 20 hH ?_
     refine rY 21 fun K hK => ?_
     go_simp
     go_at_call 68
     refine (HKE.out _).mono ?_
     rintro e w2 ⟨rfl, g2⟩
     have hb2 := g2.heap (k := w.heap.size) HB1.out id
     have HB2 := Lib.hid hb2
     have HS2 := Lib.hid (boxP3 hb2)
     have F := Lib.hid (F1.out.then g2)
     clear g2 hb2
     go_wp2_with fail
     refine hK.out _ _ HS2.out (fun hH => ?_)
     clear hK K
     try simp only [zz]
     refine tk 22 hH ?_
     refine tk 23 hH ?_
     refine dn ?_
     obtain ⟨c0, c1, c2, c3, c4, c5, c6⟩ := boxP7 HB2.out
     cases b1 <;> cases b3
     all_goals
      go_wp2_with (first
       | (go_at_call_of 65 v; refine (W1.out _).mono ?_; rintro e w3 ⟨rfl, rfl⟩)
       | (go_at_call_of 65 o; refine (W3.out _).mono ?_; rintro e w3 ⟨rfl, rfl⟩))
      go_ret
      exact ⟨ret_bool (HFin.out _ (by simp [Q.out])).symm, F.out⟩
    have q5 : ((256 : Int) < (da.length : Int)) = True := eq_true (by omega)
    have q6 : ((da.length : Int) ≤ (256 : Int)) = False := eq_false (by omega)
    have Q := Lib.hid (And.intro ha (And.intro hb (And.intro hd0 (And.intro h2 (hd)))))
    clear ha hb hd0 h2 hd hn
    go_enter Tryz.func21, Tryz.ntmps21
    go_wp2_with fail
    refine wp_region_held_drew (S := (fun w' => w'.cell? ⟨w.heap.size, 0, none⟩ = some (.int .i64 k) ∧ w'.cell? ⟨w.heap.size, 1, none⟩ = some (.string (B d)) ∧ w'.cell? ⟨w.heap.size, 2, none⟩ = some (.string (B p)))) (by kernel_rfl) ?_ (fun hH => ?_)
    ·exact boxP3 ((Fp.refl Non _).drew.heap HF0.out.2 id)
    refine tk 0 hH ?_
    refine tk 1 hH ?_
    refine tk 2 hH ?_
    refine tk 3 hH ?_
    refine tk 4 hH ?_
    refine tk 5 hH ?_
    refine tk 6 hH ?_
    refine tk 7 hH ?_
    refine tk 8 hH ?_
    refine tk 9 hH ?_
    refine tk 10 hH ?_
    refine rY 11 fun K hK => ?_
    go_simp
    go_at_call 64
    refine (HR.out _).mono ?_
    rintro e w1 ⟨rfl, g1⟩
    have hb1 := g1.fp.heap (k := w.heap.size) ((Fp.refl Non _).drew.heap HF0.out.2 id) id
    have HB1 := Lib.hid hb1
    have HS1 := Lib.hid (boxP3 hb1)
    have F1 := Lib.hid (HF0.out.1.then (((Fp.refl Non _).drew).then g1.fp))
    clear g1 hb1
    go_wp2_with fail
    refine hK.out _ _ HS1.out (fun hH => ?_)
    clear hK K
    try simp only [zz]
    refine tk 12 hH ?_
    refine tk 13 hH ?_
    refine tk 14 hH ?_
    refine tk 15 hH ?_
    refine tk 16 hH ?_
    refine tk 17 hH ?_
    refine tk 18 hH ?_
    refine tk 19 hH ?_
    refine tk 20 hH ?_
    refine rY 21 fun K hK => ?_
    go_simp
    go_at_call 68
    refine (HKE.out _).mono ?_
    rintro e w2 ⟨rfl, g2⟩
    have hb2 := g2.heap (k := w.heap.size) HB1.out id
    have HB2 := Lib.hid hb2
    have HS2 := Lib.hid (boxP3 hb2)
    have F := Lib.hid (F1.out.then g2)
    clear g2 hb2
    go_wp2_with fail
    refine hK.out _ _ HS2.out (fun hH => ?_)
    clear hK K
    try simp only [zz]
    refine tk 22 hH ?_
    refine tk 23 hH ?_
    refine dn ?_
    obtain ⟨c0, c1, c2, c3, c4, c5, c6⟩ := boxP7 HB2.out
    go_wp2
    go_ret
    exact ⟨ret_bool (HFin.out _ (by simp [Q.out])).symm, F.out⟩
   have q3 : (d != kp) = true := by simpa using hd0
   have q3b : (d == kp) = false := by simpa using hd0
   have q3c : (d = kp) = False := eq_false hd0
   have Q := Lib.hid (And.intro ha (And.intro hb (hd0)))
   clear ha hb hd0 hn
   go_enter Tryz.func21, Tryz.ntmps21
   go_wp2_with fail
   refine wp_region_held_drew (S := (fun w' => w'.cell? ⟨w.heap.size, 0, none⟩ = some (.int .i64 k) ∧ w'.cell? ⟨w.heap.size, 1, none⟩ = some (.string (B d)) ∧ w'.cell? ⟨w.heap.size, 2, none⟩ = some (.string (B p)))) (by kernel_rfl) ?_ (fun hH => ?_)
   ·exact boxP3 ((Fp.refl Non _).drew.heap HF0.out.2 id)
   refine tk 0 hH ?_
   refine tk 1 hH ?_
   refine tk 2 hH ?_
   refine tk 3 hH ?_
   refine tk 4 hH ?_
   refine tk 5 hH ?_
   refine tk 6 hH ?_
   refine tk 7 hH ?_
   refine tk 8 hH ?_
   refine tk 9 hH ?_
   refine tk 10 hH ?_
   refine rY 11 fun K hK => ?_
   go_simp
   go_at_call 64
   refine (HR.out _).mono ?_
   rintro e w1 ⟨rfl, g1⟩
   have hb1 := g1.fp.heap (k := w.heap.size) ((Fp.refl Non _).drew.heap HF0.out.2 id) id
   have HB1 := Lib.hid hb1
   have HS1 := Lib.hid (boxP3 hb1)
   have F1 := Lib.hid (HF0.out.1.then (((Fp.refl Non _).drew).then g1.fp))
   clear g1 hb1
   go_wp2_with fail
   refine hK.out _ _ HS1.out (fun hH => ?_)
   clear hK K
   try simp only [zz]
   refine tk 12 hH ?_
   refine tk 13 hH ?_
   refine tk 14 hH ?_
   refine tk 15 hH ?_
   refine tk 16 hH ?_
   refine tk 17 hH ?_
   refine tk 18 hH ?_
   refine tk 19 hH ?_
   refine tk 20 hH ?_
   refine rY 21 fun K hK => ?_
   go_simp
   go_at_call 68
   refine (HKE.out _).mono ?_
   rintro e w2 ⟨rfl, g2⟩
   have hb2 := g2.heap (k := w.heap.size) HB1.out id
   have HB2 := Lib.hid hb2
   have HS2 := Lib.hid (boxP3 hb2)
   have F := Lib.hid (F1.out.then g2)
   clear g2 hb2
   go_wp2_with fail
   refine hK.out _ _ HS2.out (fun hH => ?_)
   clear hK K
   try simp only [zz]
   refine tk 22 hH ?_
   refine tk 23 hH ?_
   refine dn ?_
   obtain ⟨c0, c1, c2, c3, c4, c5, c6⟩ := boxP7 HB2.out
   go_wp2
   go_ret
   exact ⟨ret_bool (HFin.out _ (by simp [Q.out])).symm, F.out⟩
  have q2 : ((11 : Int) ≤ k) = True := eq_true (by omega)
  have Q := Lib.hid (And.intro ha (hb))
  clear ha hb hn
  go_enter Tryz.func21, Tryz.ntmps21
  go_wp2_with fail
  refine wp_region_held_drew (S := (fun w' => w'.cell? ⟨w.heap.size, 0, none⟩ = some (.int .i64 k) ∧ w'.cell? ⟨w.heap.size, 1, none⟩ = some (.string (B d)) ∧ w'.cell? ⟨w.heap.size, 2, none⟩ = some (.string (B p)))) (by kernel_rfl) ?_ (fun hH => ?_)
  ·exact boxP3 ((Fp.refl Non _).drew.heap HF0.out.2 id)
  refine tk 0 hH ?_
  refine tk 1 hH ?_
  refine tk 2 hH ?_
  refine tk 3 hH ?_
  refine tk 4 hH ?_
  refine tk 5 hH ?_
  refine tk 6 hH ?_
  refine tk 7 hH ?_
  refine tk 8 hH ?_
  refine sk 9 hH ?_
  refine sk 10 hH ?_
  refine sk 11 hH ?_
  refine sk 12 hH ?_
  refine tk 13 hH ?_
  refine tk 14 hH ?_
  refine sk 15 hH ?_
  refine sk 16 hH ?_
  refine sk 17 hH ?_
  refine sk 18 hH ?_
  refine sk 19 hH ?_
  refine sk 20 hH ?_
  refine sk 21 hH ?_
  refine sk 22 hH ?_
  refine tk 23 hH ?_
  refine dn ?_
  go_wp2
  go_ret
  exact ⟨ret_bool (HFin.out _ (by have h := Q.out; have e : (decide (1 ≤ k) && decide (k ≤ 10)) = false := (by rw [Bool.and_eq_false_iff, decide_eq_false_iff_not, decide_eq_false_iff_not]; omega); rw [e]; rfl)).symm, HF0.out.1.then (Fp.refl Non _).drew⟩
 have q1 : (k < (1 : Int)) = True := eq_true (by omega)
 have Q := Lib.hid (ha)
 clear ha hn
 go_enter Tryz.func21, Tryz.ntmps21
 go_wp2_with fail
 refine wp_region_held_drew (S := (fun w' => w'.cell? ⟨w.heap.size, 0, none⟩ = some (.int .i64 k) ∧ w'.cell? ⟨w.heap.size, 1, none⟩ = some (.string (B d)) ∧ w'.cell? ⟨w.heap.size, 2, none⟩ = some (.string (B p)))) (by kernel_rfl) ?_ (fun hH => ?_)
 ·exact boxP3 ((Fp.refl Non _).drew.heap HF0.out.2 id)
 refine tk 0 hH ?_
 refine tk 1 hH ?_
 refine tk 2 hH ?_
 refine tk 3 hH ?_
 refine sk 4 hH ?_
 refine sk 5 hH ?_
 refine sk 6 hH ?_
 refine tk 7 hH ?_
 refine tk 8 hH ?_
 refine sk 9 hH ?_
 refine sk 10 hH ?_
 refine sk 11 hH ?_
 refine sk 12 hH ?_
 refine tk 13 hH ?_
 refine tk 14 hH ?_
 refine sk 15 hH ?_
 refine sk 16 hH ?_
 refine sk 17 hH ?_
 refine sk 18 hH ?_
 refine sk 19 hH ?_
 refine sk 20 hH ?_
 refine sk 21 hH ?_
 refine sk 22 hH ?_
 refine tk 23 hH ?_
 refine dn ?_
 go_wp2
 go_ret
 exact ⟨ret_bool (HFin.out _ (by have h := Q.out; have e : (decide (1 ≤ k) && decide (k ≤ 10)) = false := (by rw [Bool.and_eq_false_iff, decide_eq_false_iff_not, decide_eq_false_iff_not]; omega); rw [e]; rfl)).symm, HF0.out.1.then (Fp.refl Non _).drew⟩
section
variable {α : Type} {enc : α → List Value} {k : Nat}
def rowsG (enc : α → List Value) (l : List α) : List Value := l.flatMap enc
theorem rowsG_cons (x : α) (l : List α) : rowsG enc (x :: l) = enc x ++ rowsG enc l := by simp [rowsG]
theorem rowsG_app (a b : List α) : rowsG enc (a ++ b) = rowsG enc a ++ rowsG enc b := by simp [rowsG]
theorem rowsG_len (hk : ∀ x, (enc x).length = k) (l : List α) : (rowsG enc l).length = l.length * k := by
 induction l with
 | nil => simp [rowsG]
 | cons x l ih => rw [rowsG_cons, List.length_append, hk, ih, List.length_cons, Nat.add_mul, Nat.one_mul, Nat.add_comm]
theorem rowsG_get (hk : ∀ x, (enc x).length = k) (l : List α) (i j : Nat) (hi : i < l.length) (hj : j < k) : (rowsG enc l)[i * k + j]? = (enc l[i])[j]? := by
 induction l generalizing i with
 | nil => simp at hi
 | cons x l ih =>
  rw [rowsG_cons]
  cases i with
  | zero => rw [List.getElem?_append_left (by rw [hk]; omega)]; simp
  | succ i => ?_
  have e : (i + 1) * k + j = k + (i * k + j) := by rw [Nat.add_mul, Nat.one_mul]; omega
  rw [List.getElem?_append_right (by rw [hk, e]; omega), hk, e, Nat.add_sub_cancel_left, ih i (by simpa using hi)]
  simp
theorem rowsG_one (h1 : ∀ x, ∀ u ∈ enc x, u.oneCell' = true) (l : List α) : ∀ u ∈ rowsG enc l, u.oneCell' = true := by
 intro u hu
 unfold rowsG at hu
 obtain ⟨x, _, hx⟩ := List.mem_flatMap.1 hu
 exact h1 x u hx
structure ElAt (enc : α → List Value) (w : World) (g o : Nat) (x : α) : Prop where
 get : ∀ j v, (enc x)[j]? = some v → w.cell? ⟨g, o + j, none⟩ = some v
theorem ElAt.keep {w w' : World} {g o : Nat} {x : α} (h : ElAt enc w g o x) {S : Nat → Prop} (f : Fp S w w') (hS : ¬ S g) : ElAt enc w' g o x := ⟨fun j v hv => f.cell (h.get j v hv) hS⟩
structure Sg (enc : α → List Value) (k : Nat) (w : World) (v : Value) (l : List α) : Prop where
 ex : ∃ ao cap, v = .slice ao l.length cap ∧ (l = [] ∨ ∃ g o, ao = some ⟨g, o, none⟩ ∧ ∀ i (h : i < l.length), ElAt enc w g (o + i * k) l[i])
theorem Sg.non {w w' : World} {v : Value} {l : List α} (h : Sg enc k w v l) (f : Fp Non w w') : Sg enc k w' v l := by
 obtain ⟨ao, cap, rfl, h3⟩ := h.ex
 refine ⟨ao, cap, rfl, ?_⟩
 rcases h3 with h3 | ⟨g, o, rfl, hc⟩
 ·exact .inl h3
 exact .inr ⟨g, o, rfl, fun i hi => (hc i hi).keep f id⟩
theorem Sg.shape {w : World} {v : Value} {l : List α} (h : Sg enc k w v l) : ∃ ao cap, v = .slice ao l.length cap := by
 obtain ⟨ao, cap, rfl, _⟩ := h.ex; exact ⟨ao, cap, rfl⟩
theorem Sg.nil (w : World) : Sg enc k w (.slice none 0 0) [] := ⟨none, 0, rfl, .inl rfl⟩
theorem Sg.at {w : World} {v : Value} {l : List α} (h : Sg enc k w v l) (h0 : 0 < l.length) : ∃ g o cap, v = .slice (some ⟨g, o, none⟩) l.length cap ∧ ∀ i (h : i < l.length), ElAt enc w g (o + i * k) l[i] := by
 obtain ⟨ao, cap, rfl, h3⟩ := h.ex
 rcases h3 with h3 | ⟨g, o, rfl, hc⟩
 ·subst h3; simp at h0
 exact ⟨g, o, cap, rfl, hc⟩
def OwG (T : TypeId) (enc : α → List Value) (k : Nat) (lo : Nat) (w : World) (v : Value) (l : List α) : Prop := w.ownsRow lo T k v l.length (rowsG enc l)
variable {T : TypeId}
theorem OwG.nil (lo : Nat) (w : World) : OwG T enc k lo w (.slice none 0 0) [] := ⟨by simp [rowsG], .inl ⟨rfl, rfl⟩⟩
theorem OwG.non {lo : Nat} {w w' : World} {v : Value} {l : List α} (h : OwG T enc k lo w v l) (f : Fp Non w w') : OwG T enc k lo w' v l := f.owns h (fun _ _ h => h)
theorem OwG.lt {lo : Nat} {w : World} {v : Value} {l : List α} (h : OwG T enc k lo w v l) : ∀ j, v.ownBlock = some j → lo ≤ j ∧ j < w.heap.size := fun j hj => World.ownsRow.lt h j hj
theorem OwG.sg (hk : ∀ x, (enc x).length = k) {lo : Nat} {w : World} {v : Value} {l : List α} (h : OwG T enc k lo w v l) : Sg enc k w v l := by
 rcases h.2 with ⟨h0, h1⟩ | ⟨g, cap, cur, e, hb, hg, h1, h2, h3, h4⟩
 ·refine ⟨none, 0, ?_, ?_⟩
  ·rw [h1]; exact h0
  exact .inl (List.eq_nil_of_length_eq_zero h1)
 refine ⟨_, cap, e, .inr ⟨g, 0, rfl, fun i hi => ⟨fun j v hv => ?_⟩⟩⟩
 have hj : j < k := by rw [← hk l[i]]; exact (List.getElem?_eq_some_iff.1 hv).1
 rw [← rowsG_get hk l i j hi hj, ← h4] at hv
 rw [cell_of_row w g _ _ T (0, 0) hg, Nat.zero_add]
 rw [List.getElem?_take] at hv
 split at hv
 ·rw [← hv]; simp
 cases hv
theorem app_ownG (hk : ∀ x, (enc x).length = k) (h1 : ∀ x, ∀ u ∈ enc x, u.oneCell' = true) {SL : TypeId} {z : Value} {by_ : Nat} (hu : Tryz.prog.underlying SL = some (.slice T)) (hinf : (Tryz.prog.info? T).map (fun i => (i.zero, i.size, i.bytes)) = some (some z, k, by_)) (hz : z.cells.size = k) (hk0 : 0 < k) (hby : by_ ≤ 200)
  (w : World) (lo : Nat) (v : Value) (l m : List α) (ty : TypeId) (a : Addr) (n c : Nat) (hv : OwG T enc k lo w v l) (hn : n = m.length) (hx : ∀ i (h : i < m.length) j u, (enc m[i])[j]? = some u → w.cell? (a.add (i * k + j)) = some u) (h6 : l.length + m.length ≤ 100000) (hlo : lo ≤ w.heap.size) :
  ∃ v' w', (Builtin.append_ #[SL, SL] ty #[v, .slice (some a) n c]).run Tryz.prog w = .ok v' w' ∧ OwG T enc k lo w' v' (l ++ m) ∧ w.grownBy w' v.ownBlock ∧ ∀ j, v'.ownBlock = some j → v.ownBlock = some j ∨ w.heap.size ≤ j := by
 obtain ⟨i, hi, hz0, hsz, hb⟩ := info_parts hinf
 subst hn
 obtain ⟨v', w', hr, h4, h5, _, h8⟩ := run_append_own_at (P := Tryz.prog) w lo SL ty T i _ k by_ hu hi hz0 hsz hb hz hk0 v l.length (rowsG enc l) hv a m.length c (rowsG enc m) (rowsG_len hk m)
  (fun j u hu => by
   have hj : j < m.length * k := by rw [← rowsG_len hk]; exact (List.getElem?_eq_some_iff.1 hu).1
   have hd : j / k < m.length := Nat.div_lt_of_lt_mul (by rw [Nat.mul_comm]; exact hj)
   have hr : j % k < k := Nat.mod_lt _ hk0
   have e : j / k * k + j % k = j := Nat.div_add_mod' j k
   rw [← e, rowsG_get hk m (j / k) (j % k) hd hr] at hu
   have := hx (j / k) hd (j % k) u hu
   rwa [e] at this)
  (rowsG_one h1 m) (by unfold maxLen; omega) (Nat.le_trans (Nat.mul_le_mul h6 hby) (by decide)) hlo
 refine ⟨v', w', hr, ?_, h5, fun j hj => ?_⟩
 ·unfold OwG
  rw [rowsG_app, List.length_append]; exact h4
 rcases h8 with e | e
 ·exact .inl (by rw [← e]; exact hj)
 rw [hj] at e; injection e with e; exact .inr (by omega)
end
def pcC (x : Nat × Pt) : List Value := .int .i64 (x.1 : Int) :: ptC x.2
theorem ptC_len (x : Pt) : (ptC x).length = 7 := rfl
theorem pcC_len (x : Nat × Pt) : (pcC x).length = 8 := rfl
theorem ptC_one (x : Pt) : ∀ u ∈ ptC x, u.oneCell' = true := by
 intro u hu; simp only [ptC, List.mem_cons, List.not_mem_nil, or_false] at hu; rcases hu with rfl | rfl | rfl | rfl | rfl | rfl | rfl <;> rfl
theorem pcC_one (x : Nat × Pt) : ∀ u ∈ pcC x, u.oneCell' = true := by
 intro u hu; unfold pcC at hu; rcases List.mem_cons.1 hu with rfl | h
 ·rfl
 exact ptC_one x.2 u h
end Go.Proofs.YtphoglepiegeiaaGreatDoor
namespace Go.Proofs.YtphoglepiegeiaaGreatDoor
set_option maxRecDepth 20000
open Go.RowKit Pm
def Ow (lo : Nat) (w : World) (v : Value) (l : List Nd) : Prop := w.ownsRow lo TN 5 v l.length (rows l)
theorem Ow.ways {lo : Nat} {w : World} {v : Value} {l : List Nd} (h : Ow lo w v l) : (v = .slice none 0 0 ∧ l = []) ∨ ∃ G cap, v = .slice (some ⟨G, 0, none⟩) l.length cap ∧ Nr w G cap l ∧ lo ≤ G := by
 have h' := h
 unfold Ow at h'
 rcases h'.2 with ⟨h0, h1⟩ | ⟨g, cap, cur, e, hb, hg, h1, h2, h3, h4⟩
 ·refine .inl ⟨h0, ?_⟩
  cases l with
  | nil => rfl
  | cons x l => simp at h1
 refine .inr ⟨g, cap, e, ?_⟩
 unfold Ow at h
 rw [e] at h
 exact Nr.of_owns h rfl
theorem Ow.ns {lo : Nat} {w : World} {v : Value} {l : List Nd} (h : Ow lo w v l) : Ns w v l := by
 rcases h.ways with ⟨rfl, rfl⟩ | ⟨G, cap, rfl, h1, _⟩
 ·exact Ns.nil w
 exact h1.ns
theorem Ow.row {lo : Nat} {w : World} {G cap : Nat} {l : List Nd} (h : Nr w G cap l) (hlo : lo ≤ G) : Ow lo w (.slice (some ⟨G, 0, none⟩) l.length cap) l := h.owns hlo
theorem Ow.nil (lo : Nat) (w : World) : Ow lo w (.slice none 0 0) [] := ⟨rfl, .inl ⟨rfl, rfl⟩⟩
theorem Ow.keep {lo : Nat} {w w' : World} {v : Value} {l : List Nd} (h : Ow lo w v l) {S : Nat → Prop} (f : Fp S w w') (hS : ∀ k, v.ownBlock = some k → ¬ S k) : Ow lo w' v l := by
 rcases h.ways with ⟨rfl, rfl⟩ | ⟨G, cap, rfl, h1, h2⟩
 ·exact Ow.nil lo w'
 exact Ow.row (h1.keep f (hS G rfl)) h2
theorem Ow.non {lo : Nat} {w w' : World} {v : Value} {l : List Nd} (h : Ow lo w v l) (f : Fp Non w w') : Ow lo w' v l := h.keep f (fun _ _ h => h)
theorem Ow.low {lo : Nat} {w : World} {v : Value} {l : List Nd} (h : Ow lo w v l) : ∀ k, v.ownBlock = some k → lo ≤ k := by
 rcases h.ways with ⟨rfl, rfl⟩ | ⟨G, cap, rfl, _, h2⟩
 ·intro k hk; simp [Value.ownBlock] at hk
 intro k hk; simp [Value.ownBlock] at hk; omega
theorem app_own (w : World) (lo : Nat) (v : Value) (l m : List Nd) (ty : TypeId) (a : Addr) (n c : Nat) (hv : Ow lo w v l) (hn : n = m.length) (hx : ∀ i (h : i < m.length) j u, (ndC m[i])[j]? = some u → w.cell? (a.add (i * 5 + j)) = some u) (h6 : l.length + m.length ≤ 100000) (hlo : lo ≤ w.heap.size) :
  ∃ v' w', (Builtin.append_ #[TL, TL] ty #[v, .slice (some a) n c]).run Tryz.prog w = .ok v' w' ∧ Ow lo w' v' (l ++ m) ∧ w.grownBy w' v.ownBlock ∧ ∀ k, v'.ownBlock = some k → v.ownBlock = some k ∨ w.heap.size ≤ k := by
 obtain ⟨i, hi, hz, hsz, hby⟩ := info_parts Tryz.infoN
 subst hn
 obtain ⟨v', w', hr, h4, h5, _, h8⟩ := run_append_own_at (P := Tryz.prog) w lo TL ty TN i _ 5 56 Tryz.underlying22 hi hz hsz hby rfl (by decide) v l.length (rows l) hv a m.length c (rows m) (rows_len m)
  (fun j u hu => by
   have hj : j < m.length * 5 := by rw [← rows_len]; exact (List.getElem?_eq_some_iff.1 hu).1
   have hd : j / 5 < m.length := by omega
   have e : j / 5 * 5 + j % 5 = j := by omega
   rw [← e, rows_get m (j / 5) (j % 5) hd (by omega)] at hu
   have := hx (j / 5) hd (j % 5) u hu
   rwa [e] at this)
  (rows_one m) (by unfold maxLen; omega) (by omega) hlo
 refine ⟨v', w', hr, ?_, h5, fun k hk => ?_⟩
 ·unfold Ow
  rw [rows_app, List.length_append]; exact h4
 rcases h8 with e | e
 ·exact .inl (by rw [← e]; exact hk)
 rw [hk] at e; injection e with e; exact .inr (by omega)
structure OwR (w : World) (l : List Nd) (v' : Value) (w' : World) : Prop where
 own : Ow w.heap.size w' v' l
 fp : Fp Non w w'
set_option maxHeartbeats 2000000 in
theorem Clone_own (v : Value) (l : List Nd) (w : World) (hv : Ns w v l) (h5 : l.length ≤ 100000) :
  Calls Tryz.prog 55 #[v] w fun e w' => ∃ v', e = .returned v' ∧ OwR w l v' w' := by
 obtain ⟨ao, cap, rfl, h1, h2, h3⟩ := hv.ex
 cases ao with
 | none =>
  obtain rfl : l = [] := by
   rcases h3 with h | ⟨_, _, h, _⟩
   ·exact h
   cases h
  have hnil : ∀ w : World, (binOp .eql TL (.slice none 0 cap) (.slice none 0 0)).run Tryz.prog w = .ok (.bool true) w := fun w => Lib.run_eql_slice_nil w TL TN none 0 cap 0 0 Tryz.underlying22
  clear h1 h2 h3 hv h5
  simp only [List.length_nil]
  go_enter Tryz.func55, Tryz.ntmps55
  go_wp2
  go_ret
  exact ⟨_, rfl, Ow.nil _ _, Fp.refl _ _⟩
 | some a => ?_
 have hown : Ow w.heap.size (w.alloc (.cells #[] TN)) (.slice (some ⟨w.heap.size, 0, none⟩) 0 0) [] := World.ownsRow_lit w #[] 0 (Nat.le_refl _) (by unfold maxLen; omega) rfl
 have hx : ∀ i (h : i < l.length) j u, (ndC l[i])[j]? = some u → (w.alloc (.cells #[] TN)).cell? (a.add (i * 5 + j)) = some u := fun i hi j u hu => by
  rcases h3 with h | ⟨g, o, e, _, hc⟩
  ·subst h; simp at hi
  injection e with e; subst e
  have := ((hc i hi).keep ((Fp.refl Non w).alloc (.cells #[] TN)) id).get j u hu
  rw [Addr.add_lit] at this ⊢
  rwa [Nat.add_assoc] at this
 have hap : ∀ ty, ∃ v' w', (Builtin.append_ #[TL, TL] ty #[.slice (some ⟨w.heap.size, 0, none⟩) 0 0, .slice (some a) l.length cap]).run Tryz.prog (w.alloc (.cells #[] TN)) = .ok v' w' ∧ OwR w l v' w' := fun ty => by
  obtain ⟨v', w', hr, ho, hg, _⟩ := app_own (w.alloc (.cells #[] TN)) w.heap.size _ [] l ty a l.length cap hown rfl hx (by simp; omega) (by simp)
  exact ⟨v', w', hr, ho, ((Fp.refl Non w).alloc _).grown hg (fun k hk => .inr (by simp [Value.ownBlock] at hk; omega))⟩
 have hnil := nil_slice
 have HA2 := Lib.hid (hap TL)
 clear hap hown hx hv h1 h2 h3 h5
 generalize l.length = n at *
 go_enter Tryz.func55, Tryz.ntmps55
 go_wp2_with (at_builtin; go_must (refine wpList_app rfl _ _ _ _ rfl _ _ rfl rfl (OwR w l) HA2.out ?_))
 intro u w2 hR
 have HR := Lib.hid hR
 clear hR
 go_wp2
 go_ret
 exact ⟨_, rfl, HR.out⟩
structure ChR (lo : Nat) (w : World) (v : Value) (l : List Nd) (v' : Value) (w' : World) : Prop where
 own : Ow lo w' v' l
 fp : Fp (fun k => v.ownBlock = some k) w w'
 new : ∀ k, v'.ownBlock = some k → v.ownBlock = some k ∨ w.heap.size ≤ k
set_option maxHeartbeats 2000000 in
theorem Insert_own {lo : Nat} {w : World} {v : Value} {X : Nat} {l : List Nd} {x : Nd} (h : Ow lo w v l) (k : Nat) (hk : k ≤ l.length) (hX : w.heap[X]? = some (.cells (ndC x).toArray TN (0, 0))) (hne : v.ownBlock ≠ some X) (hl : l.length ≤ 4000) (hlo : lo ≤ w.heap.size) :
  Calls Tryz.prog 125 #[v, .int .i64 (k : Int), .slice (some ⟨X, 0, none⟩) 1 1] w fun e w' => ∃ v', e = .returned v' ∧ ChR lo w v (ins l k x) v' w' := by
 have hnd : NdAt w X 0 x := ⟨by rw [cell_of_row _ _ _ _ _ _ hX]; rfl, by rw [cell_of_row _ _ _ _ _ _ hX]; rfl, by rw [cell_of_row _ _ _ _ _ _ hX]; rfl, by rw [cell_of_row _ _ _ _ _ _ hX]; rfl, by rw [cell_of_row _ _ _ _ _ _ hX]; rfl⟩
 rcases h.ways with ⟨rfl, rfl⟩ | ⟨G, cap, rfl, h1, h2⟩
 ·obtain rfl : k = 0 := by simpa using hk
  have hap : ∀ ty, ∃ v' w', (Builtin.append_ #[TL, TL] ty #[.slice none 0 0, .slice (some ⟨X, 0, none⟩) 1 1]).run Tryz.prog w = .ok v' w' ∧ ChR lo w (.slice none 0 0) (ins [] 0 x) v' w' := fun ty => by
   obtain ⟨v', w', hr, ho, hg, hn8⟩ := app_own w lo (.slice none 0 0) [] [x] ty ⟨X, 0, none⟩ 1 1 h rfl (fun i hi j u hu => by
    have hi0 : i = 0 := by simp at hi; omega
    subst hi0
    have := hnd.get j u hu
    rwa [show 0 * 5 + j = j from by omega]) (by simp) hlo
   exact ⟨v', w', hr, ho, (Fp.refl _ w).grown hg (fun k hk => .inl hk), hn8⟩
  have HA := Lib.hid hap
  clear hap h hk hX hnd hl
  go_enter Tryz.func125, Tryz.ntmps125
  go_wp2_with (at_builtin; go_must (refine wpList_app rfl _ _ _ _ rfl _ _ rfl rfl (ChR lo w (.slice none 0 0) (ins [] 0 x)) (HA.out TL) ?_))
  all_goals
   intro v2 w2 hR2
   have HR := Lib.hid hR2
   clear hR2
   go_wp2
   go_ret
   exact ⟨_, rfl, HR.out⟩
 have hne' : X ≠ G := fun e => hne (by rw [e]; rfl)
 have hf : ∀ w', Fp (fun j => j = G) w w' → Fp (fun k => (Value.slice (some ⟨G, 0, none⟩) l.length cap).ownBlock = some k) w w' := fun w' f => f.mono (fun k hk => by rw [hk]; rfl)
 by_cases h0 : 0 < l.length
 ·refine (Insert_c h1 k hk hX hne' hl h0).mono ?_
  rintro e w' ⟨v', rfl, hR⟩
  obtain ⟨G', cap', rfl, a1, a2, a3⟩ := hR.ex
  refine ⟨_, rfl, ?_, hf w' a3, fun k hk => by rcases a2 with e | e <;> (simp only [Value.ownBlock, Option.some.injEq] at hk ⊢; omega)⟩
  have := Ow.row (lo := lo) a1 (by rcases a2 with e | e <;> omega)
  rwa [ins_length] at this
 obtain rfl : l = [] := List.eq_nil_of_length_eq_zero (by omega)
 obtain rfl : k = 0 := by simpa using hk
 have hap : ∀ ty, ∃ v' w', (Builtin.append_ #[TL, TL] ty #[.slice (some ⟨G, 0, none⟩) 0 cap, .slice (some ⟨X, 0, none⟩) 1 1]).run Tryz.prog w = .ok v' w' ∧ ChR lo w (.slice (some ⟨G, 0, none⟩) 0 cap) (ins [] 0 x) v' w' := fun ty => by
  obtain ⟨v', w', hr, ho, hg, hn8⟩ := app_own w lo (.slice (some ⟨G, 0, none⟩) 0 cap) [] [x] ty ⟨X, 0, none⟩ 1 1 h rfl (fun i hi j u hu => by
   have hi0 : i = 0 := by simp at hi; omega
   subst hi0
   have := hnd.get j u hu
   rwa [show 0 * 5 + j = j from by omega]) (by simp) hlo
  exact ⟨v', w', hr, ho, (Fp.refl _ w).grown hg (fun k hk => .inl hk), hn8⟩
 have HA := Lib.hid hap
 have hm := h1.most
 unfold maxLen at hm
 clear hap h hk hX hnd hl h1 hf h0
 simp only [List.length_nil]
 go_enter Tryz.func125, Tryz.ntmps125
 go_wp2_with (at_builtin; go_must (refine wpList_app rfl _ _ _ _ rfl _ _ rfl rfl (ChR lo w (.slice (some ⟨G, 0, none⟩) 0 cap) (ins [] 0 x)) (HA.out TL) ?_))
 all_goals
  intro v2 w2 hR2
  have HR := Lib.hid hR2
  clear hR2
  go_wp2
  go_ret
  exact ⟨_, rfl, HR.out⟩
end Go.Proofs.YtphoglepiegeiaaGreatDoor
