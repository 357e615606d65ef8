/- The document's Same at holds, SameNums (gen_jy.py) -/
import Derived.Test.YtenaggleepoclaaGreatJx
import Derived.Laws.StructEq
namespace Go.Proofs.YtenaggleepoclaaGreat
set_option maxRecDepth 20000
set_option linter.unusedVariables false
set_option linter.unusedSimpArgs false
open Go.RowKit Pm

theorem fH : (Tryz.prog.fieldsOf TH).toList = [⟨ "Dir", 9, 0, false, "", "", 0⟩, ⟨ "Txn", 2, 1, false, "", "", 16⟩, ⟨ "Age", 2, 2, false, "", "", 24⟩] := by kernel_rfl
theorem eq_hl (w : World) (p p' : ByteArray) (v v' t t' : Int) : (Op.equalIn 10000 TH (.agg #[.string p, .int .i64 v, .int .i64 t]) (.agg #[.string p', .int .i64 v', .int .i64 t'])).run Tryz.prog w =
    .ok (decide (p.toList = p'.toList ∧ v = v' ∧ t = t')) w := by
  rw [run_equalIn_agg w 9999 TH _ _ (by kernel_rfl) (by kernel_rfl), fH]
  have e2 := fun w a b => run_equalIn_int (P := Tryz.prog) w 9998 2 .i64 .i64 a b Tryz.underlying2
  have e3 := fun w a b => run_equalIn_string (P := Tryz.prog) w 9998 9 a b Tryz.underlying9
  simp only [Op.eqFields]
  simp [e2, e3, go_sem]
  by_cases h2 : p.toList = p'.toList <;> by_cases h4 : v = v' <;> by_cases h5 : t = t' <;> simp [h2, h4, h5]
theorem B_list (l : Bs) : (B l).toList = l := by
  unfold B; simp [ByteArray.toList_eq]
theorem eq_hls (w : World) (x y : Hl) : (Op.equalIn 10000 TH (.agg #[.string (B x.d), .int .i64 x.t, .int .i64 x.a]) (.agg #[.string (B y.d), .int .i64 y.t, .int .i64 y.a])).run Tryz.prog w = .ok (decide (x = y)) w := by
  rw [eq_hl]
  congr 1
  simp only [B_list]
  obtain ⟨_, _, _⟩ := x
  obtain ⟨_, _, _⟩ := y
  simp

/-- Ahead of round k of Same. -/
structure SaH (a b : List Hl) (w : World) (k : Nat) (wr : World) : Prop where
  fp : Fp Non w wr
  eq : a.take k = b.take k
theorem take_succ_eq {a b : List Hl} {k : Nat} (ha : k < a.length) (hb : k < b.length) (h : a.take k = b.take k) (e : a[k] = b[k]) : a.take (k + 1) = b.take (k + 1) := by
  rw [List.take_succ_eq_append_getElem ha, List.take_succ_eq_append_getElem hb, h, e]

set_option maxHeartbeats 2000000 in
theorem rSameH_c (va vb : Value) (a b : List Hl) (w : World) (hva : NsH w va a) (hvb : NsH w vb b) (hn : a.length ≤ 1000000) (hm : b.length ≤ 1000000) :
    Calls Tryz.prog 17 #[va, vb] w fun e w' => e = .returned (.bool (decide (a = b))) ∧ Fp Non w w' := by
  obtain ⟨ao, ca, rfl⟩ := hva.shape
  obtain ⟨bo, cb, rfl⟩ := hvb.shape
  by_cases hl : a.length = b.length
  · obtain ⟨n, hnn⟩ : ∃ n, n = a.length := ⟨_, rfl⟩
    have hnb : n ≤ 1000000 := by omega
    have HX := Lib.hid (And.intro hnn (And.intro (show n = b.length by omega) (And.intro hva hvb)))
    rw [← hl, ← hnn]
    have H0 : Hid (SaH a b w 0 w) := ⟨Fp.refl _ _, by simp⟩
    have heq := eq_hls
    clear hva hvb hl hn hm hnn
    go_enter Tryz.func17, Tryz.ntmps17
    go_wp2_with fail
    go_loopw [5] (fun i wr => ∃ k : Nat, k ≤ n ∧ i = .int .i64 k ∧ Hid (SaH a b w k wr)) (fun i _ => n - (RowKit.intOf i).toNat)
    case atStart => exact ⟨0, Nat.zero_le _, rfl, H0⟩
    case round =>
      clear H0
      obtain ⟨k, hk, rfl, hR⟩ := hrel
      rename_i wr _
      by_cases hlt : k < n
      · have hka : k < a.length := by rw [← HX.out.1]; exact hlt
        have hkb : k < b.length := by rw [← HX.out.2.1]; exact hlt
        obtain ⟨g, o, cap', e, _, _, _, hcell⟩ := HX.out.2.2.1.at (by omega)
        injection e with e1 e2 e3
        subst e1 e3
        obtain ⟨g', o', cap', e, _, _, _, hcell'⟩ := HX.out.2.2.2.at (by omega)
        injection e with e1 e2 e3
        subst e1 e3
        have hnd := (hcell k hka).keep hR.out.fp (fun h => h)
        have hnd' := (hcell' k hkb).keep hR.out.fp (fun h => h)
        have q3 : ((k : Int) < (n : Int)) = True := eq_true (by omega)
        have q4 : (k < n) = True := eq_true hlt
        have hnx := fun e wr' (f : Fp Non wr wr') => (show SaH a b w (k + 1) wr' from ⟨hR.out.fp.then f, take_succ_eq hka hkb hR.out.eq e⟩)
        have hno := fun (e : a[k] ≠ b[k]) => (show a ≠ b from fun h => e (by subst h; rfl))
        have HNX := Lib.hid hnx
        have HNO := Lib.hid hno
        have HL := Lib.hid hlt
        clear hcell hcell' hnx hno hlt
        generalize a[k] = x at *
        generalize b[k] = y at *
        have c0 := hnd.c0; have c1 := hnd.c1; have c2 := hnd.c2
        have d0 := hnd'.c0; have d1 := hnd'.c1; have d2 := hnd'.c2
        unfold strV at c0 d0
        clear hnd hnd' hka hkb
        by_cases hxy : x = y
        · have q5 : decide (x = y) = true := decide_eq_true hxy
          have q6 : (x = y) = True := eq_true hxy
          have hM := Lib.hid (HNX.out hxy)
          have hj := HL.out
          clear hxy
          go_wp2_with fail
          go_quiet (fail)
          go_wp2
          go_roundw
          case rel => exact ⟨k + 1, by omega, by go_num, hM.out _ ((Fp.refl _ _).drewN _)⟩
          case measure => simp [RowKit.intOf]; omega
        · have q5 : decide (x = y) = false := decide_eq_false hxy
          have q6 : (x = y) = False := eq_false hxy
          have HN := Lib.hid (HNO.out hxy)
          clear hxy
          go_wp2_with fail
          go_quiet (fail)
          go_wp2
          go_ret
          exact ⟨by rw [decide_eq_false HN.out]; rfl, hR.out.fp.drewN _⟩
      · have hke : k = n := by omega
        subst hke
        have q3 : ((k : Int) < (k : Int)) = False := eq_false (by omega)
        have hfin : a = b := by
          have := hR.out.eq
          rw [HX.out.1, List.take_length, ← HX.out.1, HX.out.2.1, List.take_length] at this; exact this
        have HFN := Lib.hid hfin
        clear hlt hk hfin
        go_wp2
        go_ret
        exact ⟨by rw [decide_eq_true HFN.out]; rfl, hR.out.fp⟩
  · have HN := Lib.hid (show a ≠ b from fun h => hl (by rw [h]))
    have q1 : ((a.length : Int) == (b.length : Int)) = false := beq_eq_false_iff_ne.2 (by omega)
    have q2 : ((a.length : Int) = (b.length : Int)) = False := eq_false (by omega)
    have q3 : (a.length == b.length) = false := beq_eq_false_iff_ne.2 hl
    have q4 : (a.length = b.length) = False := eq_false hl
    clear hl hva hvb hn hm
    go_enter Tryz.func17, Tryz.ntmps17
    go_wp2
    go_ret
    exact ⟨by rw [decide_eq_false HN.out]; rfl, Fp.refl _ _⟩

theorem ElAt.nm {w : World} {g o k : Nat} {x : Int} (h : ElAt nmC w g (o + k * 1) x) : w.cell? ⟨g, o + k, none⟩ = some (.int .i64 x) := by
  have := h.get 0 _ rfl
  rwa [Nat.mul_one, Nat.add_zero] at this
/-- Ahead of round k of Same. -/
structure SaI (a b : List Int) (w : World) (k : Nat) (wr : World) : Prop where
  fp : Fp Non w wr
  eq : a.take k = b.take k
theorem take_succ_eqI {a b : List Int} {k : Nat} (ha : k < a.length) (hb : k < b.length) (h : a.take k = b.take k) (e : a[k] = b[k]) : a.take (k + 1) = b.take (k + 1) := by
  rw [List.take_succ_eq_append_getElem ha, List.take_succ_eq_append_getElem hb, h, e]

set_option maxHeartbeats 2000000 in
theorem rSameI_c (va vb : Value) (a b : List Int) (w : World) (hva : Nm w va a) (hvb : Nm w vb b) (hn : a.length ≤ 1000000) (hm : b.length ≤ 1000000) :
    Calls Tryz.prog 18 #[va, vb] w fun e w' => e = .returned (.bool (decide (a = b))) ∧ Fp Non w w' := by
  obtain ⟨ao, ca, rfl⟩ := hva.shape
  obtain ⟨bo, cb, rfl⟩ := hvb.shape
  by_cases hl : a.length = b.length
  · obtain ⟨n, hnn⟩ : ∃ n, n = a.length := ⟨_, rfl⟩
    have hnb : n ≤ 1000000 := by omega
    have HX := Lib.hid (And.intro hnn (And.intro (show n = b.length by omega) (And.intro hva hvb)))
    rw [← hl, ← hnn]
    have H0 : Hid (SaI a b w 0 w) := ⟨Fp.refl _ _, by simp⟩
    clear hva hvb hl hn hm hnn
    go_enter Tryz.func18, Tryz.ntmps18
    go_wp2_with fail
    go_loopw [5] (fun i wr => ∃ k : Nat, k ≤ n ∧ i = .int .i64 k ∧ Hid (SaI a b w k wr)) (fun i _ => n - (RowKit.intOf i).toNat)
    case atStart => exact ⟨0, Nat.zero_le _, rfl, H0⟩
    case round =>
      clear H0
      obtain ⟨k, hk, rfl, hR⟩ := hrel
      rename_i wr _
      by_cases hlt : k < n
      · have hka : k < a.length := by rw [← HX.out.1]; exact hlt
        have hkb : k < b.length := by rw [← HX.out.2.1]; exact hlt
        obtain ⟨g, o, cap', e, hcell⟩ := HX.out.2.2.1.at (by omega)
        injection e with e1 e2 e3
        subst e1 e3
        obtain ⟨g', o', cap', e, hcell'⟩ := HX.out.2.2.2.at (by omega)
        injection e with e1 e2 e3
        subst e1 e3
        have hnd := ((hcell k hka).keep hR.out.fp (fun h => h)).nm
        have hnd' := ((hcell' k hkb).keep hR.out.fp (fun h => h)).nm
        have q3 : ((k : Int) < (n : Int)) = True := eq_true (by omega)
        have q4 : (k < n) = True := eq_true hlt
        have hnx := fun e wr' (f : Fp Non wr wr') => (show SaI a b w (k + 1) wr' from ⟨hR.out.fp.then f, take_succ_eqI hka hkb hR.out.eq e⟩)
        have hno := fun (e : a[k] ≠ b[k]) => (show a ≠ b from fun h => e (by subst h; rfl))
        have HNX := Lib.hid hnx
        have HNO := Lib.hid hno
        have HL := Lib.hid hlt
        clear hcell hcell' hnx hno hlt
        generalize a[k] = x at *
        generalize b[k] = y at *
        have c0 := hnd
        have d0 := hnd'
        clear hnd hnd' hka hkb
        by_cases hxy : x = y
        · have q5 : (x != y) = false := by simp [hxy]
          have q7 : (x == y) = true := beq_iff_eq.2 hxy
          have q6 : (x = y) = True := eq_true hxy
          have hM := Lib.hid (HNX.out hxy)
          have hj := HL.out
          clear hxy
          go_wp2_with fail
          go_quiet (fail)
          go_wp2
          go_roundw
          case rel => exact ⟨k + 1, by omega, by go_num, hM.out _ ((Fp.refl _ _).drewN _)⟩
          case measure => simp [RowKit.intOf]; omega
        · have q5 : (x != y) = true := by simp [hxy]
          have q7 : (x == y) = false := beq_eq_false_iff_ne.2 hxy
          have q6 : (x = y) = False := eq_false hxy
          have HN := Lib.hid (HNO.out hxy)
          clear hxy
          go_wp2_with fail
          go_quiet (fail)
          go_wp2
          go_ret
          exact ⟨by rw [decide_eq_false HN.out]; rfl, hR.out.fp.drewN _⟩
      · have hke : k = n := by omega
        subst hke
        have q3 : ((k : Int) < (k : Int)) = False := eq_false (by omega)
        have hfin : a = b := by
          have := hR.out.eq
          rw [HX.out.1, List.take_length, ← HX.out.1, HX.out.2.1, List.take_length] at this; exact this
        have HFN := Lib.hid hfin
        clear hlt hk hfin
        go_wp2
        go_ret
        exact ⟨by rw [decide_eq_true HFN.out]; rfl, hR.out.fp⟩
  · have HN := Lib.hid (show a ≠ b from fun h => hl (by rw [h]))
    have q1 : ((a.length : Int) == (b.length : Int)) = false := beq_eq_false_iff_ne.2 (by omega)
    have q2 : ((a.length : Int) = (b.length : Int)) = False := eq_false (by omega)
    have q3 : (a.length == b.length) = false := beq_eq_false_iff_ne.2 hl
    have q4 : (a.length = b.length) = False := eq_false hl
    clear hl hva hvb hn hm
    go_enter Tryz.func18, Tryz.ntmps18
    go_wp2
    go_ret
    exact ⟨by rw [decide_eq_false HN.out]; rfl, Fp.refl _ _⟩
end Go.Proofs.YtenaggleepoclaaGreat
