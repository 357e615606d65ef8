/- Texts of this proof, merged. -/
import Derived.Test.YthaepjeikicigaaGreatDoorZO
/- Apply, whole. -/
namespace Go.Proofs.YthaepjeikicigaaGreatDoor
set_option linter.unusedSimpArgs false
set_option linter.unusedVariables false
set_option maxRecDepth 20000
set_option linter.unusedVariables false
set_option linter.unusedSimpArgs false
open Go.RowKit Pm
set_option maxHeartbeats 4000000 in
theorem Apply_c (v : Value) (l : List Nd) (o : Opn) (w : World) (hv : Ns w v l) (hs : Sp l) (hp : o.path.length ≤ 1000000) (ht : Tab w) :
    Calls Tryz.prog 7 #[v, opV o] w (ApR w (apply l o).1 (apply l o).2) := by
  by_cases hrm : right l = true ∧ may o = true
  · rw [apply_yes ((right_iff l).1 hrm.1).tr hrm.2]
    obtain ⟨kk, p, d, vv, ow, t⟩ := o
    exact Apply_go v l kk p d vv ow t w hv hs hrm.1 hrm.2 ht
  · rw [apply_no hrm]
    have hrc := fun w1 (f : Fp Non w w1) => nRight_c v l w1 (hv.non f) hs
    have hmc := fun w1 => May_c o w1 hp
    obtain ⟨ao, cap, rfl⟩ := hv.shape
    obtain ⟨kk, p, d, vv, ow, t⟩ := o
    obtain ⟨br, hbr⟩ : ∃ br, right l = br := ⟨_, rfl⟩
    obtain ⟨bm, hbm⟩ : ∃ bm, may ⟨kk, p, d, vv, ow, t⟩ = bm := ⟨_, rfl⟩
    rw [hbr] at hrc
    rw [hbm] at hmc
    rw [hbr, hbm] at hrm
    generalize l.length = n at *
    unfold opV strV at hmc ⊢
    simp only at hmc ⊢
    have hbx := Bx.made w kk p d vv ow t
    have hf0 : Fp Non w ((w.alloc (.cells #[.int .i64 kk, .string (B p), .string (B d), .int .i64 vv, .int .i64 ow, .bool t] TO_)).alloc (.cells #[.int .i64 0, .string ⟨#[]⟩, .string ⟨#[]⟩, .int .i64 0, .slice none 0 0] TR)) := ((Fp.refl Non w).alloc _).alloc _
    have HX := Lib.hid (And.intro hbx hf0)
    have HA := Lib.hid (And.intro hrc hmc)
    clear hbx hf0 hs ht hrc hmc hv hp hbr hbm
    cases br with
    | false =>
      clear hrm
      go_enter Tryz.func7, Tryz.ntmps7
      generalize hW0 : ((w.alloc (.cells #[.int .i64 kk, .string (B p), .string (B d), .int .i64 vv, .int .i64 ow, .bool t] TO_)).alloc (.cells #[.int .i64 0, .string ⟨#[]⟩, .string ⟨#[]⟩, .int .i64 0, .slice none 0 0] TR)) = W0 at *
      go_wp2_with fail
      clear hW0
      refine (HA.out.1 _ HX.out.2).mono ?_
      rintro e w1 ⟨rfl, hf1⟩
      have F1 := Lib.hid (And.intro (HX.out.2.then hf1) hf1)
      clear hf1
      go_wp2_with fail
      refine (refused_c 1 _).mono ?_
      rintro e w9 ⟨rfl, hf9⟩
      have hb9 := HX.out.1.non (F1.out.2.then hf9)
      have HF9 := Lib.hid (F1.out.1.then hf9)
      obtain ⟨r0, r1, r2, r3, r4⟩ := (hb9).r
      have z0 := (hb9).fz 0; have z1 := (hb9).fz 1; have z2 := (hb9).fz 2; have z3 := (hb9).fz 3; have z4 := (hb9).fz 4
      have HE := Lib.hid hb9.res
      clear hf9 hb9
      unfold badV
      generalize w9 = W9 at *
      go_wp2
      have hw9 := set5 HE.out (.int .i64 1) (.string ⟨#[]⟩) (.string ⟨#[]⟩) (.int .i64 0) (.slice none 0 0)
      have hfz := fp5 (S := Non) HF9.out (b := w.heap.size + 1) (.inr (by omega)) (.int .i64 1) (.string ⟨#[]⟩) (.string ⟨#[]⟩) (.int .i64 0) (.slice none 0 0)
      generalize (((((World.setCell W9 _ _).setCell _ _).setCell _ _).setCell _ _).setCell _ _) = wz at *
      have s0 := cell_of_row _ (w.heap.size + 1) 0 _ _ _ hw9
      have s1 := cell_of_row _ (w.heap.size + 1) 1 _ _ _ hw9
      have s2 := cell_of_row _ (w.heap.size + 1) 2 _ _ _ hw9
      have s3 := cell_of_row _ (w.heap.size + 1) 3 _ _ _ hw9
      have s4 := cell_of_row _ (w.heap.size + 1) 4 _ _ _ hw9
      simp only [zA, zB, zC] at s0 s1 s2 s3 s4
      exact bodyPost_ret (v := .tuple #[.slice none 0 0, .agg #[.int .i64 1, .string ⟨#[]⟩, .string ⟨#[]⟩, .int .i64 0, .slice none 0 0]]) (by simp [results, Tryz.results7, go_sem, s0, s1, s2, s3, s4]) rfl ⟨⟨_, _, rfl, Ns.nil _, Own.nil _ _⟩, hfz⟩
    | true =>
      obtain rfl : bm = false := by
        cases bm with
        | false => rfl
        | true => exact absurd ⟨rfl, rfl⟩ hrm
      clear hrm
      go_enter Tryz.func7, Tryz.ntmps7
      generalize hW0 : ((w.alloc (.cells #[.int .i64 kk, .string (B p), .string (B d), .int .i64 vv, .int .i64 ow, .bool t] TO_)).alloc (.cells #[.int .i64 0, .string ⟨#[]⟩, .string ⟨#[]⟩, .int .i64 0, .slice none 0 0] TR)) = W0 at *
      go_wp2_with fail
      clear hW0
      refine (HA.out.1 _ HX.out.2).mono ?_
      rintro e w1 ⟨rfl, hf1⟩
      have F1 := Lib.hid (And.intro (HX.out.2.then hf1) hf1)
      obtain ⟨o0, o1, o2, o3, o4, o5⟩ := box6 (hf1.heap HX.out.1.op (fun h => h))
      clear hf1
      go_wp2_with fail
      refine (HA.out.2 _).mono ?_
      rintro e w2 ⟨rfl, hf2⟩
      have F2 := Lib.hid (And.intro (F1.out.1.then hf2) (F1.out.2.then hf2))
      clear hf2 F1 o0 o1 o2 o3 o4 o5
      go_wp2_with fail
      refine (refused_c 1 _).mono ?_
      rintro e w9 ⟨rfl, hf9⟩
      have hb9 := HX.out.1.non (F2.out.2.then hf9)
      have HF9 := Lib.hid (F2.out.1.then hf9)
      obtain ⟨r0, r1, r2, r3, r4⟩ := (hb9).r
      have z0 := (hb9).fz 0; have z1 := (hb9).fz 1; have z2 := (hb9).fz 2; have z3 := (hb9).fz 3; have z4 := (hb9).fz 4
      have HE := Lib.hid hb9.res
      clear hf9 hb9
      unfold badV
      generalize w9 = W9 at *
      go_wp2
      have hw9 := set5 HE.out (.int .i64 1) (.string ⟨#[]⟩) (.string ⟨#[]⟩) (.int .i64 0) (.slice none 0 0)
      have hfz := fp5 (S := Non) HF9.out (b := w.heap.size + 1) (.inr (by omega)) (.int .i64 1) (.string ⟨#[]⟩) (.string ⟨#[]⟩) (.int .i64 0) (.slice none 0 0)
      generalize (((((World.setCell W9 _ _).setCell _ _).setCell _ _).setCell _ _).setCell _ _) = wz at *
      have s0 := cell_of_row _ (w.heap.size + 1) 0 _ _ _ hw9
      have s1 := cell_of_row _ (w.heap.size + 1) 1 _ _ _ hw9
      have s2 := cell_of_row _ (w.heap.size + 1) 2 _ _ _ hw9
      have s3 := cell_of_row _ (w.heap.size + 1) 3 _ _ _ hw9
      have s4 := cell_of_row _ (w.heap.size + 1) 4 _ _ _ hw9
      simp only [zA, zB, zC] at s0 s1 s2 s3 s4
      exact bodyPost_ret (v := .tuple #[.slice none 0 0, .agg #[.int .i64 1, .string ⟨#[]⟩, .string ⟨#[]⟩, .int .i64 0, .slice none 0 0]]) (by simp [results, Tryz.results7, go_sem, s0, s1, s2, s3, s4]) rfl ⟨⟨_, _, rfl, Ns.nil _, Own.nil _ _⟩, hfz⟩
end Go.Proofs.YthaepjeikicigaaGreatDoor
