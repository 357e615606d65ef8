/- Texts of this proof, merged. -/
import Derived.Test.YtdfnfkknbjageaaZM
import Derived.Test.YtdfnfkknbjageaaZO
import Derived.Test.YtdfnfkknbjageaaZR
import Derived.Test.YtdfnfkknbjageaaZN
set_option linter.unusedVariables false
set_option linter.unusedSimpArgs false
/- The document's Route, SameInts, Same of answers that are alike; small commands (gen_d8.py) -/
namespace Go.Proofs.Ytdfnfkknbjageaa
set_option maxRecDepth 20000
set_option linter.unusedVariables false
set_option linter.unusedSimpArgs false
open Go.RowKit Pm


attribute [local irreducible] wpStill

abbrev TST : TypeId := 34

set_option maxHeartbeats 1000000 in
theorem sl6_c (w : World) : Calls Try.prog 30 #[.slice none 0 0, .slice none 0 0] w fun e w' => e = .returned (.bool true) ∧ Fp Non w w' := by
  go_enter Try.func30, Try.ntmps30
  go_wp2_with fail
  go_loopw [5] (fun i wr => i = .int .i64 0 ∧ Hid (Fp Non w wr)) (fun _ _ => 0)
  case atStart => exact ⟨rfl, Fp.refl _ _⟩
  case round =>
    obtain ⟨rfl, hR⟩ := hrel
    go_wp2
    go_ret
    exact ⟨rfl, hR.out⟩

set_option maxHeartbeats 1000000 in
theorem sn6_c (w : World) : Calls Try.prog 49 #[.slice none 0 0, .slice none 0 0] w fun e w' => e = .returned (.bool true) ∧ Fp Non w w' := by
  go_enter Try.func49, Try.ntmps49
  go_wp2_with fail
  go_loopw [5] (fun i wr => i = .int .i64 0 ∧ Hid (Fp Non w wr)) (fun _ _ => 0)
  case atStart => exact ⟨rfl, Fp.refl _ _⟩
  case round =>
    obtain ⟨rfl, hR⟩ := hrel
    go_wp2
    go_ret
    exact ⟨rfl, hR.out⟩

set_option maxHeartbeats 1000000 in
theorem se9_c (w : World) : Calls Try.prog 32 #[.slice none 0 0, .slice none 0 0] w fun e w' => e = .returned (.bool true) ∧ Fp Non w w' := by
  go_enter Try.func32, Try.ntmps32
  go_wp2_with fail
  go_loopw [5] (fun i wr => i = .int .i64 0 ∧ Hid (Fp Non w wr)) (fun _ _ => 0)
  case atStart => exact ⟨rfl, Fp.refl _ _⟩
  case round =>
    obtain ⟨rfl, hR⟩ := hrel
    go_wp2
    go_ret
    exact ⟨rfl, hR.out⟩

set_option maxHeartbeats 1000000 in
theorem si10_c (w : World) : Calls Try.prog 33 #[.slice none 0 0, .slice none 0 0] w fun e w' => e = .returned (.bool true) ∧ Fp Non w w' := by
  go_enter Try.func33, Try.ntmps33
  go_wp2_with fail
  go_loopw [5] (fun i wr => i = .int .i64 0 ∧ Hid (Fp Non w wr)) (fun _ _ => 0)
  case atStart => exact ⟨rfl, Fp.refl _ _⟩
  case round =>
    obtain ⟨rfl, hR⟩ := hrel
    go_wp2
    go_ret
    exact ⟨rfl, hR.out⟩

set_option maxHeartbeats 2000000 in
theorem st7_c (w : World) : Calls Try.prog 31 #[.agg #[.slice none 0 0, .slice none 0 0], .agg #[.slice none 0 0, .slice none 0 0]] w fun e w' => e = .returned (.bool true) ∧ Fp Non w w' := by
  have h1 := heap_alloc_new w (.cells #[.slice none 0 0, .slice none 0 0] TST)
  have h2 := heap_alloc_new (w.alloc (.cells #[.slice none 0 0, .slice none 0 0] TST)) (.cells #[.slice none 0 0, .slice none 0 0] TST)
  have f2 := fp_alloc (w.alloc (.cells #[.slice none 0 0, .slice none 0 0] TST)) (.cells #[.slice none 0 0, .slice none 0 0] TST)
  have f1 := (fp_alloc w (.cells #[.slice none 0 0, .slice none 0 0] TST)).then f2
  rw [World.size_alloc] at h2
  obtain ⟨W2, hW2⟩ : ∃ W2, W2 = (w.alloc (.cells #[.slice none 0 0, .slice none 0 0] TST)).alloc (.cells #[.slice none 0 0, .slice none 0 0] TST) := ⟨_, rfl⟩
  have HX := Lib.hid (show ∀ W, Fp Non W2 W → (W.cell? ⟨w.heap.size, 0, none⟩ = some (.slice none 0 0) ∧ W.cell? ⟨w.heap.size, 1, none⟩ = some (.slice none 0 0) ∧ W.cell? ⟨w.heap.size + 1, 0, none⟩ = some (.slice none 0 0) ∧ W.cell? ⟨w.heap.size + 1, 1, none⟩ = some (.slice none 0 0)) from fun W f => by
    have k1 := f.heap (by rw [hW2]; exact f2.heap h1 (fun h => h)) (fun h => h)
    have k2 := f.heap (by rw [hW2]; exact h2) (fun h => h)
    refine ⟨?_, ?_, ?_, ?_⟩
    · rw [cell_of_row _ _ _ _ _ _ k1]; rfl
    · rw [cell_of_row _ _ _ _ _ _ k1]; rfl
    · rw [cell_of_row _ _ _ _ _ _ k2]; rfl
    · rw [cell_of_row _ _ _ _ _ _ k2]; rfl)
  rw [← hW2] at f1
  have F1 := Lib.hid f1
  obtain ⟨c0, c1, d0, d1⟩ := HX.out W2 (Fp.refl _ _)
  rw [hW2] at c0 c1 d0 d1
  clear h1 h2 f1 f2
  go_enter Try.func31, Try.ntmps31
  go_wp2_with fail
  rw [← hW2] at *
  clear hW2
  refine (sn6_c _).mono ?_
  rintro e w1 ⟨rfl, hf⟩
  have F2 := Lib.hid hf
  clear c0 c1 d0 d1 hf
  obtain ⟨c0, c1, d0, d1⟩ := HX.out w1 F2.out
  go_wp2_with fail
  clear c0 c1 d0 d1
  go_loopw [5] (fun i wr => i = .int .i64 0 ∧ Hid (Fp Non W2 wr)) (fun _ _ => 0)
  case atStart => exact ⟨rfl, F2.out⟩
  case round =>
    obtain ⟨rfl, hR⟩ := hrel
    rename_i wr _
    obtain ⟨c0, c1, d0, d1⟩ := HX.out wr hR.out
    go_wp2
    go_ret
    exact ⟨rfl, F1.out.then hR.out⟩

set_option maxHeartbeats 8000000 in
theorem sameA_c (er : Int) (va vb : Value) (ms : List Mt) (w : World) (hva : NsM w va ms) (hvb : NsM w vb ms) (hn : ms.length ≤ 140737488355328) :
    Calls Try.prog 18 #[.agg (anL er va), .agg (anL er vb)] w fun e w' => e = .returned (.bool true) ∧ Fp Non w w' := by
  obtain ⟨ao, ca, rfl⟩ := hva.shape
  obtain ⟨bo, cb, rfl⟩ := hvb.shape
  have h1 := heap_alloc_new w (.cells (anL er (.slice ao ms.length ca)) TAN)
  have h2 := heap_alloc_new (w.alloc (.cells (anL er (.slice ao ms.length ca)) TAN)) (.cells (anL er (.slice bo ms.length cb)) TAN)
  have f2 := fp_alloc (w.alloc (.cells (anL er (.slice ao ms.length ca)) TAN)) (.cells (anL er (.slice bo ms.length cb)) TAN)
  have f1 := (fp_alloc w (.cells (anL er (.slice ao ms.length ca)) TAN)).then f2
  rw [World.size_alloc] at h2
  obtain ⟨n, hnn⟩ : ∃ n, n = ms.length := ⟨_, rfl⟩
  rw [← hnn] at h1 h2 f1 f2 hn ⊢
  obtain ⟨W2, hW2⟩ : ∃ W2, W2 = (w.alloc (.cells (anL er (.slice ao n ca)) TAN)).alloc (.cells (anL er (.slice bo n cb)) TAN) := ⟨_, rfl⟩
  have h1 := f2.heap h1 (fun h => h)
  rw [← hW2] at h1 h2 f1
  have HX := Lib.hid (And.intro hnn (And.intro hva (And.intro hvb (And.intro f1 (And.intro h1 h2)))))
  have heq := eq_mts
  obtain ⟨a0, a1, a2, a3, a4, a5, a6, a7, a8, a9⟩ := boxA h1
  obtain ⟨b0, b1, b2, b3, b4, b5, b6, b7, b8, b9⟩ := boxA h2
  rw [hW2] at a0 a1 a2 a3 a4 a5 a6 a7 a8 a9 b0 b1 b2 b3 b4 b5 b6 b7 b8 b9
  clear hva hvb h1 h2 f1 f2 hnn
  go_enter Try.func18, Try.ntmps18
  go_wp2_with fail
  rw [← hW2] at *
  clear hW2 a0 a1 a2 a3 a4 a5 a6 a7 a8 a9 b0 b1 b2 b3 b4 b5 b6 b7 b8 b9
  go_loopw [5] (fun i wr => ∃ k : Nat, k ≤ n ∧ i = .int .i64 k ∧ Hid (Fp Non W2 wr)) (fun i _ => n - (RowKit.intOf i).toNat)
  case atStart => exact ⟨0, Nat.zero_le _, rfl, Fp.refl _ _⟩
  case round =>
    obtain ⟨k, hk, rfl, hR⟩ := hrel
    rename_i wr _
    have a8 := (boxA (hR.out.heap HX.out.2.2.2.2.1 (fun h => h))).2.2.2.2.2.2.2.2.1
    have b8 := (boxA (hR.out.heap HX.out.2.2.2.2.2 (fun h => h))).2.2.2.2.2.2.2.2.1
    by_cases hlt : k < n
    · have hka : k < ms.length := by rw [← HX.out.1]; exact hlt
      obtain ⟨g, o, cap', e, _, _, _, hcell⟩ := HX.out.2.1.at (by omega)
      injection e with e1 e2 e3
      subst e1 e3
      obtain ⟨g', o', cap', e, _, _, _, hcell'⟩ := HX.out.2.2.1.at (by omega)
      injection e with e1 e2 e3
      subst e1 e3
      have hff := HX.out.2.2.2.1.then hR.out
      have hnd := (hcell k hka).keep hff (fun h => h)
      have hnd' := (hcell' k hka).keep hff (fun h => h)
      have q3 : ((k : Int) < (n : Int)) = True := eq_true (by omega)
      have q4 : (k < n) = True := eq_true hlt
      have HL := Lib.hid hlt
      clear hcell hcell' hlt hff
      generalize ms[k] = x at *
      have c0 := hnd.c0; have c1 := hnd.c1; have c2 := hnd.c2; have c3 := hnd.c3
      have d0 := hnd'.c0; have d1 := hnd'.c1; have d2 := hnd'.c2; have d3 := hnd'.c3
      unfold strV at c0 d0
      have q5 : decide (x = x) = true := decide_eq_true rfl
      have hj := HL.out
      clear hnd hnd' hka
      go_wp2_with fail
      go_quiet (fail)
      go_wp2
      go_roundw
      case rel => exact ⟨k + 1, by omega, by go_num, hR.out.then ((Fp.refl _ _).drewN _)⟩
      case measure => simp [RowKit.intOf]; omega
    · have hke : k = n := by omega
      subst hke
      have q3 : ((k : Int) < (k : Int)) = False := eq_false (by omega)
      clear hlt hk heq
      have a4 := (boxA (hR.out.heap HX.out.2.2.2.2.1 (fun h => h))).2.2.2.2.1
      have b4 := (boxA (hR.out.heap HX.out.2.2.2.2.2 (fun h => h))).2.2.2.2.1
      go_wp2_with fail
      refine (sl6_c _).mono ?_
      rintro e w1 ⟨rfl, g1⟩
      have F1 := Lib.hid (hR.out.then g1)
      clear g1 a4 b4 a8 b8
      obtain ⟨a0, a1, a2, a3, a4, a5, a6, a7, a8, a9⟩ := boxA (F1.out.heap HX.out.2.2.2.2.1 (fun h => h))
      obtain ⟨b0, b1, b2, b3, b4, b5, b6, b7, b8, b9⟩ := boxA (F1.out.heap HX.out.2.2.2.2.2 (fun h => h))
      go_wp2_with fail
      refine (st7_c _).mono ?_
      rintro e w2 ⟨rfl, g1⟩
      have F2 := Lib.hid (F1.out.then g1)
      clear g1 a0 a1 a2 a3 a4 a5 a6 a7 a8 a9 b0 b1 b2 b3 b4 b5 b6 b7 b8 b9
      obtain ⟨a0, a1, a2, a3, a4, a5, a6, a7, a8, a9⟩ := boxA (F2.out.heap HX.out.2.2.2.2.1 (fun h => h))
      obtain ⟨b0, b1, b2, b3, b4, b5, b6, b7, b8, b9⟩ := boxA (F2.out.heap HX.out.2.2.2.2.2 (fun h => h))
      go_wp2_with fail
      refine (se9_c _).mono ?_
      rintro e w3 ⟨rfl, g1⟩
      have F3 := Lib.hid (F2.out.then g1)
      clear g1 a0 a1 a2 a3 a4 a5 a6 a7 a8 a9 b0 b1 b2 b3 b4 b5 b6 b7 b8 b9
      obtain ⟨a0, a1, a2, a3, a4, a5, a6, a7, a8, a9⟩ := boxA (F3.out.heap HX.out.2.2.2.2.1 (fun h => h))
      obtain ⟨b0, b1, b2, b3, b4, b5, b6, b7, b8, b9⟩ := boxA (F3.out.heap HX.out.2.2.2.2.2 (fun h => h))
      go_wp2_with fail
      refine (si10_c _).mono ?_
      rintro e w4 ⟨rfl, g1⟩
      have F4 := Lib.hid (F3.out.then g1)
      clear g1 a0 a1 a2 a3 a4 a5 a6 a7 a8 a9 b0 b1 b2 b3 b4 b5 b6 b7 b8 b9
      go_wp2
      go_ret
      exact ⟨rfl, HX.out.2.2.2.1.then F4.out⟩

/-- Ahead of round k of SameInts. -/
structure SaI (a b : List Int) (w : World) (k : Nat) (wr : World) : Prop where
  fp : Fp Non w wr
  eq : a.take k = b.take k
set_option maxHeartbeats 2000000 in
theorem rSameI_c (va vb : Value) (a b : List Int) (w : World) (hva : Sg inC 1 w va a) (hvb : Sg inC 1 w vb b) (hn : a.length ≤ 140737488355328) (hm : b.length ≤ 140737488355328) :
    Calls Try.prog 16 #[va, vb] w fun e w' => e = .returned (.bool (decide (a = b))) ∧ Fp Non w w' := by
  obtain ⟨ao, ca, rfl⟩ := hva.shape
  obtain ⟨bo, cb, rfl⟩ := hvb.shape
  by_cases hl : a.length = b.length
  · obtain ⟨n, hnn⟩ : ∃ n, n = a.length := ⟨_, rfl⟩
    have hnb : n ≤ 140737488355328 := by omega
    have HX := Lib.hid (And.intro hnn (And.intro (show n = b.length by omega) (And.intro hva hvb)))
    rw [← hl, ← hnn]
    have H0 : Hid (SaI a b w 0 w) := ⟨Fp.refl _ _, by simp⟩
    clear hva hvb hl hn hm hnn
    go_enter Try.func16, Try.ntmps16
    go_wp2_with fail
    go_loopw [5] (fun i wr => ∃ k : Nat, k ≤ n ∧ i = .int .i64 k ∧ Hid (SaI a b w k wr)) (fun i _ => n - (RowKit.intOf i).toNat)
    case atStart => exact ⟨0, Nat.zero_le _, rfl, H0⟩
    case round =>
      clear H0
      obtain ⟨k, hk, rfl, hR⟩ := hrel
      rename_i wr _
      by_cases hlt : k < n
      · have hka : k < a.length := by rw [← HX.out.1]; exact hlt
        have hkb : k < b.length := by rw [← HX.out.2.1]; exact hlt
        obtain ⟨g, o, cap', e, hcell⟩ := HX.out.2.2.1.at (by omega)
        injection e with e1 e2 e3
        subst e1 e3
        obtain ⟨g', o', cap', e, hcell'⟩ := HX.out.2.2.2.at (by omega)
        injection e with e1 e2 e3
        subst e1 e3
        have c0 := ((hcell k hka).keep hR.out.fp (fun h => h)).get 0 _ rfl
        have d0 := ((hcell' k hkb).keep hR.out.fp (fun h => h)).get 0 _ rfl
        simp only [Nat.mul_one, Nat.add_zero] at c0 d0
        have q3 : ((k : Int) < (n : Int)) = True := eq_true (by omega)
        have q4 : (k < n) = True := eq_true hlt
        have hnx := fun (e : a[k] = b[k]) wr' (f : Fp Non wr wr') => (show SaI a b w (k + 1) wr' from ⟨hR.out.fp.then f, by rw [List.take_succ_eq_append_getElem hka, List.take_succ_eq_append_getElem hkb, hR.out.eq, e]⟩)
        have hno := fun (e : a[k] ≠ b[k]) => (show a ≠ b from fun h => e (by subst h; rfl))
        have HNX := Lib.hid hnx
        have HNO := Lib.hid hno
        have HL := Lib.hid hlt
        clear hcell hcell' hnx hno hlt
        generalize a[k] = x at *
        generalize b[k] = y at *
        clear hka hkb
        by_cases hxy : x = y
        · have q5 : (x == y) = true := beq_iff_eq.2 hxy
          have q6 : (x = y) = True := eq_true hxy
          have q7 : (x != y) = false := by simp [bne, q5]
          have hM := Lib.hid (HNX.out hxy)
          have hj := HL.out
          clear hxy
          go_wp2_with fail
          go_quiet (fail)
          go_wp2
          go_roundw
          case rel => exact ⟨k + 1, by omega, by go_num, hM.out _ ((Fp.refl _ _).drewN _)⟩
          case measure => simp [RowKit.intOf]; omega
        · have q5 : (x == y) = false := beq_eq_false_iff_ne.2 hxy
          have q6 : (x = y) = False := eq_false hxy
          have q7 : (x != y) = true := by simp [bne, q5]
          have HN := Lib.hid (HNO.out hxy)
          clear hxy
          go_wp2_with fail
          go_quiet (fail)
          go_wp2
          go_ret
          exact ⟨by rw [decide_eq_false HN.out]; rfl, hR.out.fp.drewN _⟩
      · have hke : k = n := by omega
        subst hke
        have q3 : ((k : Int) < (k : Int)) = False := eq_false (by omega)
        have hfin : a = b := by
          have := hR.out.eq
          rw [HX.out.1, List.take_length, ← HX.out.1, HX.out.2.1, List.take_length] at this; exact this
        have HFN := Lib.hid hfin
        clear hlt hk hfin
        go_wp2
        go_ret
        exact ⟨by rw [decide_eq_true HFN.out]; rfl, hR.out.fp⟩
  · have HN := Lib.hid (show a ≠ b from fun h => hl (by rw [h]))
    have q1 : ((a.length : Int) == (b.length : Int)) = false := beq_eq_false_iff_ne.2 (by omega)
    have q2 : ((a.length : Int) = (b.length : Int)) = False := eq_false (by omega)
    have q3 : (a.length == b.length) = false := beq_eq_false_iff_ne.2 hl
    have q4 : (a.length = b.length) = False := eq_false hl
    clear hl hva hvb hn hm
    go_enter Try.func16, Try.ntmps16
    go_wp2
    go_ret
    exact ⟨by rw [decide_eq_false HN.out]; rfl, Fp.refl _ _⟩

/-! ### Small commands -/
def mkC (kind : Int) (p : Bs) (ep tt : Int) : Cd := ⟨kind, 0, 0, 0, false, [], p, ep, tt, ⟨[], []⟩, [], 0, 0, [], false⟩
theorem str_nilM : StR ⟨[], []⟩ := ⟨(by intro n h; cases h), (by intro i j hi; simp at hi), (by intro n h; cases h), (by intro i j hi; simp at hi)⟩
theorem mkC_right {kind : Int} {p : Bs} {ep tt : Int} (h1 : 1 ≤ kind ∧ kind ≤ 13) (h2 : 0 ≤ tt ∧ tt < 4) (h3 : num ep) (h4 : isPe p = true) : rightC (mkC kind p ep tt) = true :=
  rightC_true ⟨h1, h2, areNum6.2 ⟨by simp [mkC, num], by simp [mkC, num], by simp [mkC, num], h3, by simp [mkC, num], by simp [mkC, num]⟩, h4, by show isPe [] = true; decide, ⟨by simp [mkC], fun k h => by simp [mkC] at h⟩, ⟨by simp [mkC], by simp [mkC], str_nilM⟩, ⟨by simp [mkC], fun k h => by simp [mkC] at h⟩⟩
theorem mkC_wrong {kind : Int} {p : Bs} {ep tt : Int} (h : rightC (mkC kind p ep tt) = false) (h1 : 1 ≤ kind ∧ kind ≤ 13) (h3 : num ep) : ¬ (okG tt = true ∧ okP p = true) := fun ⟨a, b⟩ => by
  have : rightC (mkC kind p ep tt) = true := mkC_right h1 (by unfold okG at a; exact of_decide_eq_true a) h3 (by unfold isPe; unfold okP at b; rw [b]; simp)
  rw [h] at this; cases this
theorem doM_begin (l : List Mt) (p : Bs) (tt : Int) : doM l (mkC 11 p 0 tt) = bgM l p tt := by
  unfold doM
  cases h : rightC (mkC 11 p 0 tt) with
  | true => rw [if_pos rfl, if_pos (show (mkC 11 p 0 tt).kind = 11 from rfl)]; rfl
  | false =>
    rw [if_neg Bool.false_ne_true]
    have hw := mkC_wrong h (by decide) (by decide)
    have hm : mayM l p tt = false := by
      cases hm : mayM l p tt with
      | false => rfl
      | true => exact absurd ⟨(may_ok hm).2.2, (may_ok hm).2.1⟩ hw
    unfold bgM
    rw [bgn_no hm, if_neg (by simp)]
theorem doM_flip (l : List Mt) (p : Bs) (ep tt : Int) (he : num ep) : doM l (mkC 12 p ep tt) = ((flM l p ep tt).1, (flM l p ep tt).2, []) := by
  unfold doM
  cases h : rightC (mkC 12 p ep tt) with
  | true => rw [if_pos rfl, if_neg (show ¬ (mkC 12 p ep tt).kind = 11 from by simp [mkC]), if_pos (show (mkC 12 p ep tt).kind = 12 from rfl)]; rfl
  | false =>
    rw [if_neg Bool.false_ne_true]
    have hw := mkC_wrong h (by decide) he
    have hm : mayM l p tt = false := by
      cases hm : mayM l p tt with
      | false => rfl
      | true => exact absurd ⟨(may_ok hm).2.2, (may_ok hm).2.1⟩ hw
    unfold flM
    rw [flp_no hm, if_neg (by simp)]
theorem doM_route (l : List Mt) : doM l (mkC 13 [] 0 0) = (l, 0, l) := by
  unfold doM
  rw [mkC_right (by decide) (by decide) (by decide) (by decide), if_pos rfl, if_neg (show ¬ (mkC 13 [] 0 0).kind = 11 by decide), if_neg (show ¬ (mkC 13 [] 0 0).kind = 12 by decide), if_pos (show (mkC 13 [] 0 0).kind = 13 from rfl)]
theorem doM_run (l : List Mt) : doM l (mkC 1 [] 0 0) = (l, 1, []) := by
  unfold doM
  rw [mkC_right (by decide) (by decide) (by decide) (by decide), if_pos rfl, if_neg (show ¬ (mkC 1 [] 0 0).kind = 11 by decide), if_neg (show ¬ (mkC 1 [] 0 0).kind = 12 by decide), if_neg (show ¬ (mkC 1 [] 0 0).kind = 13 by decide)]
theorem doL_c (q : Nat) (l : List Mt) (kind : Int) (p : Bs) (ep tt : Int) (w : World) (hm : MeW w q l) (hr : RtM l) (hp : p.length ≤ 140737488355328) :
    Calls Try.prog 11 #[.pointer (some ⟨q, 0, none⟩), .agg #[.int .i64 kind, .int .i64 0, .int .i64 0, .int .i64 0, .bool false, .slice none 0 0, .string (B p), .int .i64 ep, .int .i64 tt, .slice none 0 0, .slice none 0 0, .slice none 0 0, .int .i64 0, .int .i64 0, .string ⟨#[]⟩, .bool false]] w (DoR q (doM l (mkC kind p ep tt)).1 (doM l (mkC kind p ep tt)).2.1 (doM l (mkC kind p ep tt)).2.2 w) :=
  Do_c q l (mkC kind p ep tt) (.slice none 0 0) (.slice none 0 0) (.slice none 0 0) (.slice none 0 0) w hm hr ⟨_, _, _, _, rfl, Sg.nil w, Ns.nil w, Ts.nil w, ⟨none, 0, rfl, .inl rfl⟩⟩
    ⟨hp, by simp [mkC], by simp [mkC], fun _ h => by simp [mkC] at h, by simp [mkC], fun _ h => by simp [mkC] at h, by simp [mkC], fun _ h => by simp [mkC] at h, by simp [mkC], fun _ h => by simp [mkC] at h⟩
    ⟨⟨_, _, _, rfl⟩, ⟨_, _, _, rfl⟩, ⟨_, _, _, rfl⟩, ⟨_, _, _, rfl⟩⟩
end Go.Proofs.Ytdfnfkknbjageaa

/- The live question (cantonlaw15.head; gen_d9.py) -/
namespace Go.Proofs.Ytdfnfkknbjageaa
set_option maxRecDepth 20000
set_option linter.unusedVariables false
set_option linter.unusedSimpArgs false
open Go.RowKit Pm


def hdA : List Mt := [⟨[47], 0, 1, 0⟩]
def hdB : List Mt := [⟨[47], 0, 1, 0⟩, ⟨[47, 97], 0, 1, 1⟩]
def hdC : List Mt := [⟨[47], 0, 1, 0⟩, ⟨[47, 97], 1, 2, 1⟩]
theorem hd_0 : rightM hdA = true ∧ rightM hdB = true ∧ rightM hdC = true ∧ rightM [] = false := by decide +kernel
theorem hd_1 : bgM hdA [47, 97] 1 = (hdB, 0, [⟨[47, 97], 0, 1, 1⟩]) := by decide +kernel
theorem hd_2 : flM hdB [47, 97] 1 1 = (hdC, 0) := by decide +kernel
theorem hd_3 : rtB hdC [[47, 98], [47, 97, 47, 99]] = true ∧ rtL hdC [[47, 98], [47, 97, 47, 99]] = [0, 1] := by decide +kernel
theorem rt_of {l : List Mt} (h : rightM l = true) : RtM l := (right_ifft l).1 h
theorem do_1 (q : Nat) (w : World) (h : MeW w q hdA) : Calls Try.prog 11 #[.pointer (some ⟨q, 0, none⟩), .agg #[.int .i64 11, .int .i64 0, .int .i64 0, .int .i64 0, .bool false, .slice none 0 0, .string ⟨#[47, 97]⟩, .int .i64 0, .int .i64 1, .slice none 0 0, .slice none 0 0, .slice none 0 0, .int .i64 0, .int .i64 0, .string ⟨#[]⟩, .bool false]] w (DoR q hdB 0 [⟨[47, 97], 0, 1, 1⟩] w) := by
  have := doL_c q hdA 11 [47, 97] 0 1 w h (rt_of hd_0.1) (by decide)
  rw [doM_begin, hd_1] at this
  exact this
theorem do_2 (q : Nat) (w : World) (h : MeW w q hdB) : Calls Try.prog 11 #[.pointer (some ⟨q, 0, none⟩), .agg #[.int .i64 12, .int .i64 0, .int .i64 0, .int .i64 0, .bool false, .slice none 0 0, .string ⟨#[47, 97]⟩, .int .i64 1, .int .i64 1, .slice none 0 0, .slice none 0 0, .slice none 0 0, .int .i64 0, .int .i64 0, .string ⟨#[]⟩, .bool false]] w (DoR q hdC 0 [] w) := by
  have := doL_c q hdB 12 [47, 97] 1 1 w h (rt_of hd_0.2.1) (by decide)
  rw [doM_flip _ _ _ _ (by decide), hd_2] at this
  exact this
theorem do_3 (q : Nat) (w : World) (h : MeW w q hdC) : Calls Try.prog 11 #[.pointer (some ⟨q, 0, none⟩), .agg #[.int .i64 13, .int .i64 0, .int .i64 0, .int .i64 0, .bool false, .slice none 0 0, .string ⟨#[]⟩, .int .i64 0, .int .i64 0, .slice none 0 0, .slice none 0 0, .slice none 0 0, .int .i64 0, .int .i64 0, .string ⟨#[]⟩, .bool false]] w (DoR q hdC 0 hdC w) := by
  have := doL_c q hdC 13 [] 0 0 w h (rt_of hd_0.2.2.1) (by decide)
  rw [doM_route] at this
  exact this
theorem do_4 (q : Nat) (w : World) (h : MeW w q hdC) : Calls Try.prog 11 #[.pointer (some ⟨q, 0, none⟩), .agg #[.int .i64 1, .int .i64 0, .int .i64 0, .int .i64 0, .bool false, .slice none 0 0, .string ⟨#[]⟩, .int .i64 0, .int .i64 0, .slice none 0 0, .slice none 0 0, .slice none 0 0, .int .i64 0, .int .i64 0, .string ⟨#[]⟩, .bool false]] w (DoR q hdC 1 [] w) := by
  have := doL_c q hdC 1 [] 0 0 w h (rt_of hd_0.2.2.1) (by decide)
  rw [doM_run] at this
  exact this
theorem two_tx (w : World) (a b : Bs) : Tx (w.alloc (.cells #[.string (B a), .string (B b)] 9)) (.slice (some ⟨w.heap.size, 0, none⟩) 2 2) [a, b] := by
  have h := heap_alloc_new w (.cells #[.string (B a), .string (B b)] 9)
  refine ⟨some ⟨w.heap.size, 0, none⟩, 2, rfl, .inr ⟨_, 0, rfl, fun i hi => ?_⟩⟩
  rw [cell_of_row _ _ _ _ _ _ h]
  match i, hi with
  | 0, _ => rfl
  | 1, _ => rfl

set_option maxHeartbeats 8000000 in
theorem headM_c (w : World) : Calls Try.prog 7 #[] w fun e w' => e = .returned (.bool true) ∧ Fp Non w w' := by
  go_enter Try.func7, Try.ntmps7
  go_wp2_with fail
  have hA : NsM (w.alloc (.cells #[.string ⟨#[47]⟩, .int .i64 0, .int .i64 1, .int .i64 0] TM)) (.slice (some ⟨w.heap.size, 0, none⟩) 1 1) hdA := by
    have hb : BxM (w.alloc (.cells #[.string ⟨#[47]⟩, .int .i64 0, .int .i64 1, .int .i64 0] TM)) w.heap.size ⟨[47], 0, 1, 0⟩ := BxM.new w ⟨[47], 0, 1, 0⟩
    exact ⟨_, 1, rfl, Nat.le_refl _, by decide, .inr ⟨_, 0, rfl, hb.lt, fun i hi => by
      have hi0 : i = 0 := by simp [hdA] at hi; omega
      subst hi0; exact hb.nd⟩⟩
  have hf0 := fp_alloc w (.cells #[.string ⟨#[47]⟩, .int .i64 0, .int .i64 1, .int .i64 0] TM)
  refine (NewM_c _ _ _ hA (rt_of hd_0.1).szs).mono ?_
  intro e w1 hR
  rcases hR.way with ⟨h, _⟩ | ⟨hA1, q, rfl, hM, hq⟩
  · rw [hd_0.1] at h; cases h
  have hsz := hf0.size
  have HK := Lib.hid (KQ.fp (q := q) (hf0.then hR.fp) (by omega))
  have HM := Lib.hid hM
  clear hR hM hA hA1 hq hsz hf0
  go_wp2_with fail
  refine (NewM_c _ [] _ (NsM.nil _) ⟨by simp, fun _ h => by cases h⟩).mono ?_
  intro e w2 hR
  obtain rfl : e = .returned (.pointer none) := by
    rcases hR.way with ⟨_, h⟩ | ⟨h, _⟩
    · exact h
    · rw [hd_0.2.2.2] at h; cases h
  have HK := Lib.hid (HK.out.non hR.fp)
  have HM := Lib.hid (HM.out.non hR.fp)
  clear hR
  go_wp2_with fail
  refine (do_1 q w2 HM.out).mono ?_
  intro e w3 hR
  obtain ⟨v2, rfl, hN⟩ := hR.ex
  have HK := Lib.hid (HK.out.later hR.fp)
  have HM := Lib.hid hR.me
  obtain ⟨a2, c2, rfl⟩ : ∃ a c, v2 = Value.slice a 1 c := by obtain ⟨a, c, e⟩ := hN.shape; exact ⟨a, c, e⟩
  have N2 := Lib.hid hN
  clear hR hN
  go_wp2_with (refine wpList_stC rfl TAN _ _ rfl _ _ rfl rfl (stn_any stAN _ rfl rfl (anL_one ⟨_, _, _, rfl⟩)) ?_)
  have fa := fp_alloc w3 (.cells (anL 0 (.slice a2 1 c2)) TAN)
  have HK := Lib.hid (KQ.and (KQ.row (q := q) (heap_alloc_new w3 (.cells (anL 0 (.slice a2 1 c2)) TAN)) (by have h := HM.out.lt; omega)) (KQ.and (KQ.ns (HM.out.non fa) (N2.out.non fa)) (HK.out.non fa)))
  have HM := Lib.hid (HM.out.non fa)
  obtain ⟨b2, hb2⟩ : ∃ b, b = w3.heap.size := ⟨_, rfl⟩
  rw [← hb2] at HK ⊢
  clear fa hb2 N2
  generalize (World.alloc w3 (.cells (anL 0 (.slice a2 1 c2)) TAN)) = w3x at *
  refine (do_2 q w3x HM.out).mono ?_
  intro e w4 hR
  obtain ⟨v3, rfl, hN⟩ := hR.ex
  have HK := Lib.hid (HK.out.later hR.fp)
  have HM := Lib.hid hR.me
  obtain ⟨a3, c3, rfl⟩ : ∃ a c, v3 = Value.slice a 0 c := by obtain ⟨a, c, e⟩ := hN.shape; exact ⟨a, c, e⟩
  have N3 := Lib.hid hN
  clear hR hN
  go_wp2_with (refine wpList_stC rfl TAN _ _ rfl _ _ rfl rfl (stn_any stAN _ rfl rfl (anL_one ⟨_, _, _, rfl⟩)) ?_)
  have fa := fp_alloc w4 (.cells (anL 0 (.slice a3 0 c3)) TAN)
  have HK := Lib.hid (KQ.and (KQ.row (q := q) (heap_alloc_new w4 (.cells (anL 0 (.slice a3 0 c3)) TAN)) (by have h := HM.out.lt; omega)) (KQ.and (KQ.ns (HM.out.non fa) (N3.out.non fa)) (HK.out.non fa)))
  have HM := Lib.hid (HM.out.non fa)
  obtain ⟨b3, hb3⟩ : ∃ b, b = w4.heap.size := ⟨_, rfl⟩
  rw [← hb3] at HK ⊢
  clear fa hb3 N3
  generalize (World.alloc w4 (.cells (anL 0 (.slice a3 0 c3)) TAN)) = w4x at *
  refine (do_3 q w4x HM.out).mono ?_
  intro e w5 hR
  obtain ⟨v4, rfl, hN⟩ := hR.ex
  have HK := Lib.hid (HK.out.later hR.fp)
  have HM := Lib.hid hR.me
  obtain ⟨a4, c4, rfl⟩ : ∃ a c, v4 = Value.slice a 2 c := by obtain ⟨a, c, e⟩ := hN.shape; exact ⟨a, c, e⟩
  have N4 := Lib.hid hN
  clear hR hN
  go_wp2_with (refine wpList_stC rfl TAN _ _ rfl _ _ rfl rfl (stn_any stAN _ rfl rfl (anL_one ⟨_, _, _, rfl⟩)) ?_)
  have fa := fp_alloc w5 (.cells (anL 0 (.slice a4 2 c4)) TAN)
  have HK := Lib.hid (KQ.and (KQ.row (q := q) (heap_alloc_new w5 (.cells (anL 0 (.slice a4 2 c4)) TAN)) (by have h := HM.out.lt; omega)) (KQ.and (KQ.ns (HM.out.non fa) (N4.out.non fa)) (HK.out.non fa)))
  have HM := Lib.hid (HM.out.non fa)
  obtain ⟨b4, hb4⟩ : ∃ b, b = w5.heap.size := ⟨_, rfl⟩
  rw [← hb4] at HK ⊢
  clear fa hb4 N4
  generalize (World.alloc w5 (.cells (anL 0 (.slice a4 2 c4)) TAN)) = w5x at *
  refine (do_4 q w5x HM.out).mono ?_
  intro e w6 hR
  obtain ⟨v5, rfl, hN⟩ := hR.ex
  have HK := Lib.hid (HK.out.later hR.fp)
  have HM := Lib.hid hR.me
  obtain ⟨a5, c5, rfl⟩ : ∃ a c, v5 = Value.slice a 0 c := by obtain ⟨a, c, e⟩ := hN.shape; exact ⟨a, c, e⟩
  have N5 := Lib.hid hN
  clear hR hN
  have fa := fp_alloc w6 (.cells (anL 1 (.slice a5 0 c5)) TAN)
  have HK := Lib.hid (KQ.and (KQ.row (q := q) (heap_alloc_new w6 (.cells (anL 1 (.slice a5 0 c5)) TAN)) (by have h := HM.out.lt; omega)) (KQ.and (KQ.ns (HM.out.non fa) (N5.out.non fa)) (HK.out.non fa)))
  have x4 := (boxA HK.out.now.2.2.1).2.2.2.2.2.2.2.2.1
  obtain ⟨b5, hb5⟩ : ∃ b, b = w6.heap.size := ⟨_, rfl⟩
  rw [← hb5] at HK
  have HBN := Lib.hid hb5
  clear fa hb5 N5 HM
  go_wp2_with (refine wpList_stC rfl TAN _ _ rfl _ _ rfl rfl (stn_any stAN _ rfl rfl (anL_one ⟨_, _, _, rfl⟩)) ?_)
  rw [← HBN.out]
  clear x4
  have hz : (World.alloc w6 (.cells (anL 1 (.slice a5 0 c5)) TAN)).heap.size = b5 + 1 := by rw [HBN.out]; simp
  generalize (World.alloc w6 (.cells (anL 1 (.slice a5 0 c5)) TAN)) = w6x at *
  have hT : Tx (w6x.alloc (.cells #[.string ⟨#[47, 98]⟩, .string ⟨#[47, 97, 47, 99]⟩] 9)) (.slice (some ⟨w6x.heap.size, 0, none⟩) 2 2) [[47, 98], [47, 97, 47, 99]] := two_tx w6x [47, 98] [47, 97, 47, 99]
  rw [hz] at hT
  clear hz
  have fa := fp_alloc w6x (.cells #[.string ⟨#[47, 98]⟩, .string ⟨#[47, 97, 47, 99]⟩] 9)
  have HR := Lib.hid (Route_c _ _ hdC [[47, 98], [47, 97, 47, 99]] _ (HK.out.now.2.2.2.1.non fa) hT (rt_of hd_0.2.2.1).szs (by intro d hd; simp at hd; rcases hd with rfl | rfl <;> decide) (by decide))
  have HK := Lib.hid (HK.out.non fa)
  clear hT fa
  refine HR.out.mono ?_
  intro e w7 hR
  obtain ⟨v6, rfl, hS⟩ := hR.ex
  have HK := Lib.hid (HK.out.non hR.fp)
  rw [hd_3.2] at hS
  rw [hd_3.1]
  obtain ⟨g6, o6, c6, rfl, hc6⟩ := hS.at (by decide)
  have i0 := (hc6 0 (by decide)).get 0 _ rfl
  have i1 := (hc6 1 (by decide)).get 0 _ rfl
  simp only [Nat.mul_one, Nat.add_zero] at i0 i1
  clear hR hS hc6 HR
  have hk := HK.out.now
  obtain ⟨g2, o2, cc, e, _, _, _, hc2⟩ := hk.2.2.2.2.2.2.2.1.at (by decide)
  injection e with e1 e2 e3
  subst e1
  clear e2 e3
  have m3 : _ = some (Value.int .i64 1) := (hc2 0 (by decide)).c3
  have y2 := (boxA hk.2.2.2.2.2.2.1).2.2.2.2.2.2.2.2.1
  have y3 := (boxA hk.2.2.2.2.1).1
  have y4 := (boxA hk.2.2.1).2.2.2.2.2.2.2.2.1
  have y5 := (boxA hk.1).1
  have HF := Lib.hid hk.2.2.2.2.2.2.2.2
  clear hk hc2
  go_wp2
  go_ret
  exact ⟨rfl, HF.out⟩
end Go.Proofs.Ytdfnfkknbjageaa

/- Commands in a row; great: is it too much? (gen_dg.py) -/
namespace Go.Proofs.Ytdfnfkknbjageaa
set_option maxRecDepth 20000
set_option linter.unusedVariables false
set_option linter.unusedSimpArgs false
open Go.RowKit Pm


/-- A command in the midst of a row. -/
structure CdAt (w : World) (g o : Nat) (c : Cd) (vp vn vt vg : Value) : Prop where
  get : ∀ j v, (cdL c vp vn vt vg)[j]? = some v → w.cell? ⟨g, o + j, none⟩ = some v
theorem CdAt.keep {w w' : World} {g o : Nat} {c : Cd} {vp vn vt vg : Value} (h : CdAt w g o c vp vn vt vg) {S : Nat → Prop} (f : Fp S w w') (hS : ¬ S g) : CdAt w' g o c vp vn vt vg := ⟨fun j v hv => f.cell (h.get j v hv) hS⟩
/-- A slice that reads as commands. -/
structure CdsW (w : World) (v : Value) (l : List Cd) : Prop where
  ex : ∃ ao cap, v = .slice ao l.length cap ∧ (l = [] ∨ ∃ g o, ao = some ⟨g, o, none⟩ ∧ ∀ i (h : i < l.length), ∃ vp vn vt vg, CdAt w g (o + i * 16) l[i] vp vn vt vg ∧ CdW w (.agg (cdL l[i] vp vn vt vg)) l[i] ∧ Slc vp vn vt vg)
theorem CdsW.nil (w : World) : CdsW w (.slice none 0 0) [] := ⟨none, 0, rfl, .inl rfl⟩
theorem CdsW.shape {w : World} {v : Value} {l : List Cd} (h : CdsW w v l) : ∃ ao cap, v = .slice ao l.length cap := by
  obtain ⟨ao, cap, e, _⟩ := h.ex; exact ⟨ao, cap, e⟩
theorem CdsW.at {w : World} {v : Value} {l : List Cd} (h : CdsW w v l) (h0 : 0 < l.length) : ∃ g o cap, v = .slice (some ⟨g, o, none⟩) l.length cap ∧ ∀ i (h : i < l.length), ∃ vp vn vt vg, CdAt w g (o + i * 16) l[i] vp vn vt vg ∧ CdW w (.agg (cdL l[i] vp vn vt vg)) l[i] ∧ Slc vp vn vt vg := by
  obtain ⟨ao, cap, rfl, h3⟩ := h.ex
  rcases h3 with h3 | ⟨g, o, rfl, hc⟩
  · subst h3; simp at h0
  · exact ⟨g, o, cap, rfl, hc⟩
theorem minM (a : Nat) : (0 : Int) ≤ min (a : Int) 3000 ∧ min (a : Int) 3000 ≤ 3000 := by omega

set_option maxHeartbeats 8000000 in
theorem greatM_c (v vc : Value) (l : List Mt) (cs : List Cd) (w : World) (hv : NsM w v l) (hn : l.length ≤ 140737488355328) (hc : CdsW w vc cs) (hm : cs.length ≤ 140737488355328) (hln : ∀ c ∈ cs, Ln c) :
    Calls Try.prog 9 #[v, vc] w fun e w' => (∃ g : Bool, e = .returned (.bool g)) ∧ Fp Non w w' := by
  obtain ⟨ao, cap, rfl⟩ := hv.shape
  obtain ⟨co, cc, rfl⟩ := hc.shape
  obtain ⟨n, hnn⟩ : ∃ n, n = l.length := ⟨_, rfl⟩
  obtain ⟨m, hmm⟩ : ∃ m, m = cs.length := ⟨_, rfl⟩
  rw [← hnn] at hn ⊢
  rw [← hmm] at hm ⊢
  have HX := Lib.hid (And.intro hnn (And.intro hv (And.intro hmm (And.intro hc hln))))
  clear hv hnn hc hmm hln
  go_enter Try.func9, Try.ntmps9
  go_wp2_with fail
  go_loopw [5, 6] (fun x i wr => ∃ k : Nat, k ≤ n ∧ i = .int .i64 k ∧ ∃ N : Int, x = .int .i64 N ∧ (0 ≤ N) ∧ (N ≤ 562949953421312) ∧ Hid (Fp Non w wr)) (fun _ i _ => n - (RowKit.intOf i).toNat)
  case atStart => exact ⟨0, Nat.zero_le _, rfl, (n : Int) + (m : Int), by go_num, by omega, by omega, Fp.refl _ _⟩
  case round =>
    obtain ⟨k, hk, rfl, N, rfl, hN, hNN, hR⟩ := hrel
    rename_i wr _
    by_cases hlt : k < n ∧ N < 3000
    · obtain ⟨hlt, hN3⟩ := hlt
      have hkl : k < l.length := by rw [← HX.out.1]; exact hlt
      have q3 : ((k : Int) < (n : Int)) = True := eq_true (by omega)
      have q4 : (k < n) = True := eq_true hlt
      have q5 : (N < 3000) = True := eq_true hN3
      obtain ⟨g, o, cap', e, _, _, _, hcell⟩ := HX.out.2.1.at (by omega)
      rw [← HX.out.1] at e
      injection e with e1 e2 e3
      subst e1 e3
      have hnd := (hcell k hkl).keep hR.out (fun h => h)
      have HL := Lib.hid (And.intro hlt (And.intro hN3 hN))
      have hb3 := minM l[k].d.length
      clear hlt hcell hN3
      obtain ⟨x, hx⟩ : ∃ x, x = l[k] := ⟨_, rfl⟩
      simp only [← hx] at hnd hb3
      clear hx hkl e2
      obtain ⟨xd, xg, xe, xt⟩ := x
      have c0 := hnd.c0
      unfold strV at c0
      simp only at c0 hb3
      have HB3 := Lib.hid hb3
      clear hnd hb3
      go_wp2_with fail
      try go_quiet (fail)
      go_wp2_with fail
      have hb := HB3.out
      have hj := HL.out
      refine ⟨⟨k + 1, by omega, by go_num, _, rfl, by omega, by omega, hR.out.then (by first | exact Fp.refl _ _ | exact (Fp.refl _ _).drew | exact (Fp.refl _ _).drewN _)⟩, ?_⟩
      simp [RowKit.intOf]; omega
    · have q0 : ∀ W : World, True := fun _ => trivial
      obtain ⟨b, hb⟩ : ∃ b : Bool, b = decide (3000 ≤ N) := ⟨_, rfl⟩
      have hnot : ¬ (k < n ∧ N < 3000) := hlt
      clear hlt q0 hb b
      by_cases hk3 : k < n
      · have hN3 : ¬ N < 3000 := fun h => hnot ⟨hk3, h⟩
        have q4 : ((k : Int) < (n : Int)) = True := eq_true (by omega)
        have q5 : (k < n) = True := eq_true hk3
        have q6 : (N < 3000) = False := eq_false hN3
        have q7 : (N < 300) = False := eq_false (by omega)
        have p6 : ((3000 : Int) ≤ N) = True := eq_true (by omega)
        clear hk3 hN3 hnot hk hN hNN
        go_wp2_with fail
        have HR := Lib.hid hR.out
        clear hR
        go_loopw [7] (fun i wr => ∃ k : Nat, k ≤ m ∧ i = .int .i64 k ∧ Hid (Fp Non w wr)) (fun i _ => m - (RowKit.intOf i).toNat)
        case atStart => exact ⟨0, Nat.zero_le _, rfl, HR.out⟩
        case round =>
          obtain ⟨j, hj, rfl, hS⟩ := hrel
          rename World => ws
          by_cases hlt2 : j < m
          · have p3 : ((j : Int) < (m : Int)) = True := eq_true (by omega)
            have p4 : (j < m) = True := eq_true hlt2
            clear hlt2 hj
            go_wp2
            go_ret
            exact ⟨⟨_, rfl⟩, hS.out⟩
          · have p3 : ((j : Int) < (m : Int)) = False := eq_false (by omega)
            have p4 : (j < m) = False := eq_false hlt2
            clear hlt2 hj
            go_wp2
            go_ret
            exact ⟨⟨_, rfl⟩, hS.out⟩
      · have q4 : ((k : Int) < (n : Int)) = False := eq_false (by omega)
        have q5 : (k < n) = False := eq_false hk3
        clear hk3 hnot hk
        by_cases h3 : N < 300
        · have q7 : (N < 300) = True := eq_true h3
          have q6 : (N < 3000) = True := eq_true (by omega)
          have p6 : ((3000 : Int) ≤ N) = False := eq_false (by omega)
          clear h3 hN hNN
          go_wp2_with fail
          have HR := Lib.hid hR.out
          clear hR
          go_loopw [7] (fun i wr => ∃ k : Nat, k ≤ m ∧ i = .int .i64 k ∧ Hid (Fp Non w wr)) (fun i _ => m - (RowKit.intOf i).toNat)
          case atStart => exact ⟨0, Nat.zero_le _, rfl, HR.out⟩
          case round =>
            obtain ⟨j, hj, rfl, hS⟩ := hrel
            rename World => ws
            by_cases hlt2 : j < m
            · have p3 : ((j : Int) < (m : Int)) = True := eq_true (by omega)
              have p4 : (j < m) = True := eq_true hlt2
              have hjl : j < cs.length := by rw [← HX.out.2.2.1]; exact hlt2
              obtain ⟨g, o, cap', e, hcell⟩ := HX.out.2.2.2.1.at (by omega)
              rw [← HX.out.2.2.1] at e
              injection e with e1 e2 e3
              subst e1 e3
              obtain ⟨vp, vn, vt, vg, hat, hcd, hsl⟩ := hcell j hjl
              have hgc := cGreat_c _ cs[j] ws (hcd.non hS.out) (HX.out.2.2.2.2 _ (List.getElem_mem hjl))
              have hat := hat.keep hS.out (fun h => h)
              generalize cs[j] = c at *
              obtain ⟨a1, n1, c1, rfl⟩ := hsl.p
              obtain ⟨a2, n2, c2, rfl⟩ := hsl.n
              obtain ⟨a3, n3, c3, rfl⟩ := hsl.t
              obtain ⟨a4, n4, c4, rfl⟩ := hsl.g
              have k0 := hat.get 0 _ rfl
              have k1 := hat.get 1 _ rfl
              have k2 := hat.get 2 _ rfl
              have k3 := hat.get 3 _ rfl
              have k4 := hat.get 4 _ rfl
              have k5 := hat.get 5 _ rfl
              have k6 := hat.get 6 _ rfl
              have k7 := hat.get 7 _ rfl
              have k8 := hat.get 8 _ rfl
              have k9 := hat.get 9 _ rfl
              have k10 := hat.get 10 _ rfl
              have k11 := hat.get 11 _ rfl
              have k12 := hat.get 12 _ rfl
              have k13 := hat.get 13 _ rfl
              have k14 := hat.get 14 _ rfl
              have k15 := hat.get 15 _ rfl
              simp only [Nat.add_zero] at k0
              have HG := Lib.hid hgc
              have HL := Lib.hid (And.intro hlt2 hj)
              clear hcell hat hcd hgc hjl hlt2 hsl hj e2
              go_wp2_with fail
              refine HG.out.mono ?_
              rintro e w4 ⟨g, rfl, _, hf⟩
              have HF := Lib.hid (hS.out.then hf)
              clear hf k0 k1 k2 k3 k4 k5 k6 k7 k8 k9 k10 k11 k12 k13 k14 k15
              cases g with
              | true =>
                go_wp2
                go_ret
                exact ⟨⟨_, rfl⟩, HF.out⟩
              | false =>
                have hj := HL.out
                go_wp2
                go_roundw
                case rel => exact ⟨j + 1, by omega, by go_num, HF.out⟩
                case measure => simp [RowKit.intOf]; omega
            · have p3 : ((j : Int) < (m : Int)) = False := eq_false (by omega)
              have p4 : (j < m) = False := eq_false hlt2
              clear hlt2 hj
              by_cases h100 : 100 < m
              · have r1 : ((100 : Int) < (m : Int)) = True := eq_true (by omega)
                have r2 : (100 < m) = True := eq_true h100
                clear h100 hm
                go_wp2
                go_ret
                exact ⟨⟨_, rfl⟩, hS.out⟩
              · have r1 : ((100 : Int) < (m : Int)) = False := eq_false (by omega)
                have r2 : (100 < m) = False := eq_false h100
                clear h100 hm
                go_wp2
                go_ret
                exact ⟨⟨_, rfl⟩, hS.out⟩
        · have q7 : (N < 300) = False := eq_false h3
          by_cases h30 : N < 3000
          · have q6 : (N < 3000) = True := eq_true h30
            have p6 : ((3000 : Int) ≤ N) = False := eq_false (by omega)
            clear h3 h30 hN hNN
            go_wp2_with fail
            have HR := Lib.hid hR.out
            clear hR
            go_loopw [7] (fun i wr => ∃ k : Nat, k ≤ m ∧ i = .int .i64 k ∧ Hid (Fp Non w wr)) (fun i _ => m - (RowKit.intOf i).toNat)
            case atStart => exact ⟨0, Nat.zero_le _, rfl, HR.out⟩
            case round =>
              obtain ⟨j, hj, rfl, hS⟩ := hrel
              rename World => ws
              by_cases hlt2 : j < m
              · have p3 : ((j : Int) < (m : Int)) = True := eq_true (by omega)
                have p4 : (j < m) = True := eq_true hlt2
                clear hlt2 hj
                by_cases h100 : 100 < m
                · have r1 : ((100 : Int) < (m : Int)) = True := eq_true (by omega)
                  have r2 : (100 < m) = True := eq_true h100
                  clear h100 hm
                  go_wp2
                  go_ret
                  exact ⟨⟨_, rfl⟩, hS.out⟩
                · have r1 : ((100 : Int) < (m : Int)) = False := eq_false (by omega)
                  have r2 : (100 < m) = False := eq_false h100
                  clear h100 hm
                  go_wp2
                  go_ret
                  exact ⟨⟨_, rfl⟩, hS.out⟩
              · have p3 : ((j : Int) < (m : Int)) = False := eq_false (by omega)
                have p4 : (j < m) = False := eq_false hlt2
                clear hlt2 hj
                by_cases h100 : 100 < m
                · have r1 : ((100 : Int) < (m : Int)) = True := eq_true (by omega)
                  have r2 : (100 < m) = True := eq_true h100
                  clear h100 hm
                  go_wp2
                  go_ret
                  exact ⟨⟨_, rfl⟩, hS.out⟩
                · have r1 : ((100 : Int) < (m : Int)) = False := eq_false (by omega)
                  have r2 : (100 < m) = False := eq_false h100
                  clear h100 hm
                  go_wp2
                  go_ret
                  exact ⟨⟨_, rfl⟩, hS.out⟩
          · have q6 : (N < 3000) = False := eq_false h30
            have p6 : ((3000 : Int) ≤ N) = True := eq_true (by omega)
            clear h3 h30 hN hNN
            go_wp2_with fail
            have HR := Lib.hid hR.out
            clear hR
            go_loopw [7] (fun i wr => ∃ k : Nat, k ≤ m ∧ i = .int .i64 k ∧ Hid (Fp Non w wr)) (fun i _ => m - (RowKit.intOf i).toNat)
            case atStart => exact ⟨0, Nat.zero_le _, rfl, HR.out⟩
            case round =>
              obtain ⟨j, hj, rfl, hS⟩ := hrel
              rename World => ws
              by_cases hlt2 : j < m
              · have p3 : ((j : Int) < (m : Int)) = True := eq_true (by omega)
                have p4 : (j < m) = True := eq_true hlt2
                clear hlt2 hj
                go_wp2
                go_ret
                exact ⟨⟨_, rfl⟩, hS.out⟩
              · have p3 : ((j : Int) < (m : Int)) = False := eq_false (by omega)
                have p4 : (j < m) = False := eq_false hlt2
                clear hlt2 hj
                go_wp2
                go_ret
                exact ⟨⟨_, rfl⟩, hS.out⟩
end Go.Proofs.Ytdfnfkknbjageaa

