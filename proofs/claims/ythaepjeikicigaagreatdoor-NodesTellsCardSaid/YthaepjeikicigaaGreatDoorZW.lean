/- Texts of this proof, merged. -/
import Derived.Test.YthaepjeikicigaaGreatDoorZV
/- The document's May, Named. -/
namespace Go.Proofs.YthaepjeikicigaaGreatDoor
set_option linter.unusedSimpArgs false
set_option linter.unusedVariables false
set_option maxRecDepth 20000
set_option linter.unusedVariables false
set_option linter.unusedSimpArgs false
open Go.RowKit Pm
theorem opt_two (x : Option Bs) : ∃ a b, x.getD [] = a ∧ x.isSome = b := ⟨_, _, rfl, rfl⟩
set_option maxHeartbeats 4000000 in
theorem rNamed_c (o : Opn) (u : Bs) (t : Int) (w : World) (hu : parent o.path = some u) (ht0 : 0 ≤ t) (ht1 : t ≤ 10000) :
    Calls Tryz.prog 44 #[opV o, .int .i64 t] w fun e w' => e = .returned (.tuple #[.string (B ((named o u t).getD [])), .bool (named o u t).isSome]) ∧ Fp Non w w' := by
  obtain ⟨_, _, _, hul, hll, hol, _⟩ := parent_some hu
  have hpa := fun w => rParent_g o.path w (sz_of hol (by omega))
  rw [hu] at hpa
  simp only [Option.getD_some, Option.isSome_some] at hpa
  have hla := fun w => rLast_g o.path w (sz_of hol (by omega))
  have hnu := fun w => rNumbered_g (last o.path) t w (by omega)
  have hjo := fun s w (hs : s.length ≤ 1000) => rJoin_g u s w (sz_of hul (by omega)) (sz_of hs (by omega))
  obtain ⟨kk, p, d, vv, ow, tt⟩ := o
  have hf0 := fp_alloc w (.cells #[.int .i64 kk, .string (B p), .string (B d), .int .i64 vv, .int .i64 ow, .bool tt] TO_)
  have hb0 := heap_alloc_new w (.cells #[.int .i64 kk, .string (B p), .string (B d), .int .i64 vv, .int .i64 ow, .bool tt] TO_)
  have HF0 := Lib.hid (And.intro hf0 hb0)
  unfold opV strV
  simp only at hpa hla hnu ⊢
  cases tt with
  | false =>
    have e1 : named ⟨kk, p, d, vv, ow, false⟩ u t = some p := by unfold named; simp
    rw [e1]
    clear hf0 hb0 hpa hla hnu hjo
    go_enter Tryz.func44, Tryz.ntmps44
    go_wp2
    go_ret2
    exact ⟨rfl, HF0.out.1⟩
  | true =>
    have e1 : named ⟨kk, p, d, vv, ow, true⟩ u t = (numbered (last p) t).bind (join u) := by unfold named; simp
    rw [e1]
    have HP := Lib.hid hpa
    have HLA := Lib.hid hla
    have HJ := Lib.hid hjo
    cases hn : numbered (last p) t with
    | none =>
      rw [hn] at hnu
      simp only [Option.getD_none, Option.isSome_none] at hnu
      have HN := Lib.hid hnu
      simp only [Option.bind_none, Option.getD_none, Option.isSome_none]
      clear hf0 hb0 hpa hla hnu hjo hn
      go_enter Tryz.func44, Tryz.ntmps44
      go_wp2_with fail
      refine (HP.out _).mono ?_
      rintro e w1 ⟨rfl, g1⟩
      have F1 := Lib.hid (HF0.out.1.then g1.fp)
      have hb1 := (g1.fp.heap HF0.out.2 (fun h => h))
      obtain ⟨o0, o1, o2, o3, o4, o5⟩ := box6 hb1
      clear g1 hb1
      go_wp2_with fail
      refine (HLA.out _).mono ?_
      rintro e w2 ⟨rfl, g2⟩
      have F2 := Lib.hid (F1.out.then g2.fp)
      clear g2 o0 o1 o2 o3 o4 o5
      go_wp2_with fail
      refine (HN.out _).mono ?_
      rintro e w3 ⟨rfl, g3⟩
      have F3 := Lib.hid (F2.out.then g3.fp)
      clear g3
      go_wp2
      go_ret2
      exact ⟨rfl, F3.out⟩
    | some s =>
      rw [hn] at hnu
      simp only [Option.getD_some, Option.isSome_some] at hnu
      have HN := Lib.hid hnu
      have hsl : s.length ≤ 1000 := by
        unfold numbered at hn
        split at hn
        · rename_i hc
          injection hn with hn
          have := (isPart_len hc.2.2).2
          rw [hn] at this; omega
        · cases hn
      have HSL := Lib.hid hsl
      simp only [Option.bind_some]
      clear hf0 hb0 hpa hla hnu hjo hn hsl
      go_enter Tryz.func44, Tryz.ntmps44
      go_wp2_with fail
      refine (HP.out _).mono ?_
      rintro e w1 ⟨rfl, g1⟩
      have F1 := Lib.hid (HF0.out.1.then g1.fp)
      have hb1 := (g1.fp.heap HF0.out.2 (fun h => h))
      obtain ⟨o0, o1, o2, o3, o4, o5⟩ := box6 hb1
      clear g1 hb1
      go_wp2_with fail
      refine (HLA.out _).mono ?_
      rintro e w2 ⟨rfl, g2⟩
      have F2 := Lib.hid (F1.out.then g2.fp)
      clear g2 o0 o1 o2 o3 o4 o5
      go_wp2_with fail
      refine (HN.out _).mono ?_
      rintro e w3 ⟨rfl, g3⟩
      have F3 := Lib.hid (F2.out.then g3.fp)
      clear g3
      go_wp2_with fail
      refine (HJ.out _ _ HSL.out).mono ?_
      rintro e w4 ⟨rfl, g4⟩
      have F4 := Lib.hid (F3.out.then g4.fp)
      clear g4
      go_wp2
      go_ret2
      exact ⟨rfl, F4.out⟩
theorem ret_bool' {a b : Bool} (h : a = b) : Ending.returned (.bool a) = .returned (.bool b) := by rw [h]
set_option maxHeartbeats 8000000 in
theorem rMay_c (o : Opn) (w : World) (hl : o.path.length ≤ 1000000) :
    Calls Tryz.prog 14 #[opV o] w fun e w' => e = .returned (.bool (may o)) ∧ Fp Non w w' := by
  have hri := fun w => rRight_g o.path w (sz_of hl (by omega))
  obtain ⟨kk, p, d, vv, ow, tt⟩ := o
  obtain ⟨sp, hsp⟩ : ∃ b, (split p).isSome = b := ⟨_, rfl⟩
  simp only at hri
  rw [hsp] at hri
  have HR := Lib.hid hri
  have HSP := Lib.hid hsp
  have hf0 := fp_alloc w (.cells #[.int .i64 kk, .string (B p), .string (B d), .int .i64 vv, .int .i64 ow, .bool tt] TO_)
  have hb0 := heap_alloc_new w (.cells #[.int .i64 kk, .string (B p), .string (B d), .int .i64 vv, .int .i64 ow, .bool tt] TO_)
  have HF0 := Lib.hid (And.intro hf0 hb0)
  obtain ⟨m, hm⟩ : ∃ m, may ⟨kk, p, d, vv, ow, tt⟩ = m := ⟨_, rfl⟩
  have HM := Lib.hid hm
  rw [hm]
  unfold opV strV
  simp only
  clear hri hsp hf0 hb0 hm hl
  go_enter Tryz.func14, Tryz.ntmps14
  go_wp2_with fail
  all_goals
    refine (HR.out _).mono ?_
    rintro e w1 ⟨rfl, g1⟩
    have F1 := Lib.hid (HF0.out.1.then g1.fp)
    have hb1 := (g1.fp.heap HF0.out.2 (fun h => h))
    obtain ⟨o0, o1, o2, o3, o4, o5⟩ := box6 hb1
    clear g1 hb1
  all_goals go_wp2
  all_goals
    go_ret
    refine ⟨ret_bool' ?_, F1.out⟩
    have hm := HM.out
    have hs := HSP.out
    rw [← hm]
    unfold may
    clear HR HF0 F1 o0 o1 o2 o3 o4 o5 hm HM HSP
    rw [hs]
    clear hs
    dsimp only
    rcases Classical.em (d.length ≤ 256 ∧ 0 ≤ ow ∧ ow ≤ 1099511627776) with hA | hA
    · first
        | (exfalso; omega)
        | (rw [decide_eq_true hA]; clear hA; simp_all; done)
        | (rw [decide_eq_true hA]; clear hA; by_cases hz : vv = 0 <;> simp_all <;> done)
        | (rw [decide_eq_true hA]; clear hA; simp_all; intros; omega)
        | skip
    · first
        | (exfalso; omega)
        | (rw [decide_eq_false hA]; simp; done)
        | (rw [decide_eq_false hA]; clear hA; simp_all; done)
        | skip
end Go.Proofs.YthaepjeikicigaaGreatDoor
