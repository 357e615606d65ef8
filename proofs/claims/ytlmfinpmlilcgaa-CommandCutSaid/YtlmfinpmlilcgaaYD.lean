/- Texts of this proof, merged. -/
import Derived.Test.YtlmfinpmlilcgaaZM
import Derived.Test.YtlmfinpmlilcgaaZO
set_option linter.unusedVariables false
set_option linter.unusedSimpArgs false
/- The document's Same at strings and pieces. (gen_gq.py) -/
namespace Go.Proofs.Ytlmfinpmlilcgaa
set_option maxRecDepth 20000
set_option linter.unusedVariables false
set_option linter.unusedSimpArgs false
open Go.RowKit Pm

/-- Ahead of round k of Same. -/
structure SaX (a b : List Bs) (w : World) (k : Nat) (wr : World) : Prop where
  fp : Fp Non w wr
  eq : a.take k = b.take k
theorem take_succ_eqS {a b : List Bs} {k : Nat} (ha : k < a.length) (hb : k < b.length) (h : a.take k = b.take k) (e : a[k] = b[k]) : a.take (k + 1) = b.take (k + 1) := by
  rw [List.take_succ_eq_append_getElem ha, List.take_succ_eq_append_getElem hb, h, e]

set_option maxHeartbeats 2000000 in
theorem rSameX_c (va vb : Value) (a b : List Bs) (w : World) (hva : Tx w va a) (hvb : Tx w vb b) (hn : a.length ≤ 1000000) (hm : b.length ≤ 1000000) :
    Calls Try.prog 25 #[va, vb] w fun e w' => e = .returned (.bool (decide (a = b))) ∧ Fp Non w w' := by
  obtain ⟨ao, ca, rfl⟩ := hva.shape
  obtain ⟨bo, cb, rfl⟩ := hvb.shape
  by_cases hl : a.length = b.length
  · obtain ⟨n, hnn⟩ : ∃ n, n = a.length := ⟨_, rfl⟩
    have hnb : n ≤ 1000000 := by omega
    have HX := Lib.hid (And.intro hnn (And.intro (show n = b.length by omega) (And.intro hva hvb)))
    rw [← hl, ← hnn]
    have H0 : Hid (SaX a b w 0 w) := ⟨Fp.refl _ _, by simp⟩
    clear hva hvb hl hn hm hnn
    go_enter Try.func25, Try.ntmps25
    go_wp2_with fail
    go_loopw [5] (fun i wr => ∃ k : Nat, k ≤ n ∧ i = .int .i64 k ∧ Hid (SaX a b w k wr)) (fun i _ => n - (RowKit.intOf i).toNat)
    case atStart => exact ⟨0, Nat.zero_le _, rfl, H0⟩
    case round =>
      clear H0
      obtain ⟨k, hk, rfl, hR⟩ := hrel
      rename_i wr _
      by_cases hlt : k < n
      · have hka : k < a.length := by rw [← HX.out.1]; exact hlt
        have hkb : k < b.length := by rw [← HX.out.2.1]; exact hlt
        obtain ⟨g, o, cap', e, hcell⟩ := HX.out.2.2.1.at (by omega)
        injection e with e1 e2 e3
        subst e1 e3
        obtain ⟨g', o', cap', e, hcell'⟩ := HX.out.2.2.2.at (by omega)
        injection e with e1 e2 e3
        subst e1 e3
        have hnd := hR.out.fp.cell (hcell k hka) (fun h => h)
        have hnd' := hR.out.fp.cell (hcell' k hkb) (fun h => h)
        have q3 : ((k : Int) < (n : Int)) = True := eq_true (by omega)
        have q4 : (k < n) = True := eq_true hlt
        have hnx := fun e wr' (f : Fp Non wr wr') => (show SaX a b w (k + 1) wr' from ⟨hR.out.fp.then f, take_succ_eqS hka hkb hR.out.eq e⟩)
        have hno := fun (e : a[k] ≠ b[k]) => (show a ≠ b from fun h => e (by subst h; rfl))
        have HNX := Lib.hid hnx
        have HNO := Lib.hid hno
        have HL := Lib.hid hlt
        clear hcell hcell' hnx hno hlt
        generalize a[k] = x at *
        generalize b[k] = y at *
        have c0 := hnd
        have d0 := hnd'
        clear hnd hnd' hka hkb
        by_cases hxy : x = y
        · have q5 : (x != y) = false := by simp [hxy]
          have q7 : (x == y) = true := beq_iff_eq.2 hxy
          have q6 : (x = y) = True := eq_true hxy
          have hM := Lib.hid (HNX.out hxy)
          have hj := HL.out
          clear hxy
          go_wp2_with fail
          go_quiet (fail)
          go_wp2
          go_roundw
          case rel => exact ⟨k + 1, by omega, by go_num, hM.out _ ((Fp.refl _ _).drewN _)⟩
          case measure => simp [RowKit.intOf]; omega
        · have q5 : (x != y) = true := by simp [hxy]
          have q7 : (x == y) = false := beq_eq_false_iff_ne.2 hxy
          have q6 : (x = y) = False := eq_false hxy
          have HN := Lib.hid (HNO.out hxy)
          clear hxy
          go_wp2_with fail
          go_quiet (fail)
          go_wp2
          go_ret
          exact ⟨by rw [decide_eq_false HN.out]; rfl, hR.out.fp.drewN _⟩
      · have hke : k = n := by omega
        subst hke
        have q3 : ((k : Int) < (k : Int)) = False := eq_false (by omega)
        have hfin : a = b := by
          have := hR.out.eq
          rw [HX.out.1, List.take_length, ← HX.out.1, HX.out.2.1, List.take_length] at this; exact this
        have HFN := Lib.hid hfin
        clear hlt hk hfin
        go_wp2
        go_ret
        exact ⟨by rw [decide_eq_true HFN.out]; rfl, hR.out.fp⟩
  · have HN := Lib.hid (show a ≠ b from fun h => hl (by rw [h]))
    have q1 : ((a.length : Int) == (b.length : Int)) = false := beq_eq_false_iff_ne.2 (by omega)
    have q2 : ((a.length : Int) = (b.length : Int)) = False := eq_false (by omega)
    have q3 : (a.length == b.length) = false := beq_eq_false_iff_ne.2 hl
    have q4 : (a.length = b.length) = False := eq_false hl
    clear hl hva hvb hn hm
    go_enter Try.func25, Try.ntmps25
    go_wp2
    go_ret
    exact ⟨by rw [decide_eq_false HN.out]; rfl, Fp.refl _ _⟩


abbrev TPC : TypeId := 48
theorem fTpc : (Try.prog.fieldsOf TPC).toList = [⟨ "Op", 3, 0, false, "", "", 0⟩, ⟨ "Part", 46, 1, false, "", "", 8⟩] := by kernel_rfl
theorem fTpt : (Try.prog.fieldsOf TP).toList = [⟨ "Kind", 3, 0, false, "", "", 0⟩, ⟨ "Dir", 9, 1, false, "", "", 8⟩, ⟨ "Path", 9, 2, false, "", "", 24⟩, ⟨ "Data", 9, 3, false, "", "", 40⟩, ⟨ "Version", 2, 4, false, "", "", 56⟩, ⟨ "Owner", 2, 5, false, "", "", 64⟩, ⟨ "Turns", 4, 6, false, "", "", 72⟩] := by kernel_rfl
theorem eq_pts (w : World) (x y : Pt) : (Op.equalIn 9999 TP (.agg #[.int .i64 x.kind, .string (B x.dir), .string (B x.path), .string (B x.data), .int .i64 x.ver, .int .i64 x.own, .bool x.turns]) (.agg #[.int .i64 y.kind, .string (B y.dir), .string (B y.path), .string (B y.data), .int .i64 y.ver, .int .i64 y.own, .bool y.turns])).run Try.prog w = .ok (decide (x = y)) w := by
  rw [run_equalIn_agg w 9998 TP _ _ (by kernel_rfl) (by kernel_rfl), fTpt]
  have e1 := fun w a b => run_equalIn_int (P := Try.prog) w 9997 3 .i64 .i64 a b Try.underlying3
  have e2 := fun w a b => run_equalIn_int (P := Try.prog) w 9997 2 .i64 .i64 a b Try.underlying2
  have e3 := fun w a b => run_equalIn_string (P := Try.prog) w 9997 9 a b Try.underlying9
  have e4 := fun w a b => run_equalIn_bool' (P := Try.prog) w 9997 4 a b Try.underlying4
  obtain ⟨k, d, p, da, v, o, tn⟩ := x
  obtain ⟨k', d', p', da', v', o', tn'⟩ := y
  simp only [Op.eqFields]
  simp [e1, e2, e3, e4, go_sem, B_list]
  by_cases h1 : k = k' <;> by_cases h2 : d = d' <;> by_cases h3 : p = p' <;> by_cases h4 : da = da' <;> by_cases h5 : v = v' <;> by_cases h6 : o = o' <;> by_cases h7 : tn = tn' <;> simp [h1, h2, h3, h4, h5, h6, h7]
theorem eq_pes (w : World) (x y : Pe) : (Op.equalIn 10000 TPC (.agg #[.int .i64 x.op, .int .i64 x.p.kind, .string (B x.p.dir), .string (B x.p.path), .string (B x.p.data), .int .i64 x.p.ver, .int .i64 x.p.own, .bool x.p.turns]) (.agg #[.int .i64 y.op, .int .i64 y.p.kind, .string (B y.p.dir), .string (B y.p.path), .string (B y.p.data), .int .i64 y.p.ver, .int .i64 y.p.own, .bool y.p.turns])).run Try.prog w = .ok (decide (x = y)) w := by
  rw [run_equalIn_agg w 9999 TPC _ _ (by kernel_rfl) (by kernel_rfl), fTpc]
  have e1 := fun w a b => run_equalIn_int (P := Try.prog) w 9998 3 .i64 .i64 a b Try.underlying3
  obtain ⟨k, x⟩ := x
  obtain ⟨k', y⟩ := y
  have e2 := eq_pts w x y
  simp only [Op.eqFields]
  simp [e1, e2, go_sem]
  by_cases h1 : k = k' <;> by_cases h2 : x = y
  all_goals (try simp [h1, h2])
  all_goals (intro g1 g2 g3 g4 g5 g6 g7; apply h2; obtain ⟨_, _, _, _, _, _, _⟩ := x; obtain ⟨_, _, _, _, _, _, _⟩ := y; simp only at g1 g2 g3 g4 g5 g6 g7; subst g1 g2 g3 g4 g5 g6 g7; rfl)

/-- Ahead of round k of Same. -/
structure SaP (a b : List Pe) (w : World) (k : Nat) (wr : World) : Prop where
  fp : Fp Non w wr
  eq : a.take k = b.take k
theorem take_succ_eqP {a b : List Pe} {k : Nat} (ha : k < a.length) (hb : k < b.length) (h : a.take k = b.take k) (e : a[k] = b[k]) : a.take (k + 1) = b.take (k + 1) := by
  rw [List.take_succ_eq_append_getElem ha, List.take_succ_eq_append_getElem hb, h, e]

set_option maxHeartbeats 2000000 in
theorem rSameP_c (va vb : Value) (a b : List Pe) (w : World) (hva : Sg peC 8 w va a) (hvb : Sg peC 8 w vb b) (hn : a.length ≤ 1000000) (hm : b.length ≤ 1000000) :
    Calls Try.prog 26 #[va, vb] w fun e w' => e = .returned (.bool (decide (a = b))) ∧ Fp Non w w' := by
  obtain ⟨ao, ca, rfl⟩ := hva.shape
  obtain ⟨bo, cb, rfl⟩ := hvb.shape
  by_cases hl : a.length = b.length
  · obtain ⟨n, hnn⟩ : ∃ n, n = a.length := ⟨_, rfl⟩
    have hnb : n ≤ 1000000 := by omega
    have HX := Lib.hid (And.intro hnn (And.intro (show n = b.length by omega) (And.intro hva hvb)))
    rw [← hl, ← hnn]
    have H0 : Hid (SaP a b w 0 w) := ⟨Fp.refl _ _, by simp⟩
    have heq := eq_pes
    clear hva hvb hl hn hm hnn
    go_enter Try.func26, Try.ntmps26
    go_wp2_with fail
    go_loopw [5] (fun i wr => ∃ k : Nat, k ≤ n ∧ i = .int .i64 k ∧ Hid (SaP a b w k wr)) (fun i _ => n - (RowKit.intOf i).toNat)
    case atStart => exact ⟨0, Nat.zero_le _, rfl, H0⟩
    case round =>
      clear H0
      obtain ⟨k, hk, rfl, hR⟩ := hrel
      rename_i wr _
      by_cases hlt : k < n
      · have hka : k < a.length := by rw [← HX.out.1]; exact hlt
        have hkb : k < b.length := by rw [← HX.out.2.1]; exact hlt
        obtain ⟨g, o, cap', e, hcell⟩ := HX.out.2.2.1.at (by omega)
        injection e with e1 e2 e3
        subst e1 e3
        obtain ⟨g', o', cap', e, hcell'⟩ := HX.out.2.2.2.at (by omega)
        injection e with e1 e2 e3
        subst e1 e3
        have hnd := (hcell k hka).keep hR.out.fp (fun h => h)
        have hnd' := (hcell' k hkb).keep hR.out.fp (fun h => h)
        have q3 : ((k : Int) < (n : Int)) = True := eq_true (by omega)
        have q4 : (k < n) = True := eq_true hlt
        have hnx := fun e wr' (f : Fp Non wr wr') => (show SaP a b w (k + 1) wr' from ⟨hR.out.fp.then f, take_succ_eqP hka hkb hR.out.eq e⟩)
        have hno := fun (e : a[k] ≠ b[k]) => (show a ≠ b from fun h => e (by subst h; rfl))
        have HNX := Lib.hid hnx
        have HNO := Lib.hid hno
        have HL := Lib.hid hlt
        clear hcell hcell' hnx hno hlt
        generalize a[k] = x at *
        generalize b[k] = y at *
        obtain ⟨c0, c1, c2, c3, c4, c5, c6, c7⟩ := pe_cells hnd
        obtain ⟨d0, d1, d2, d3, d4, d5, d6, d7⟩ := pe_cells hnd'
        clear hnd hnd' hka hkb
        by_cases hxy : x = y
        · have q5 : decide (x = y) = true := decide_eq_true hxy
          have q6 : (x = y) = True := eq_true hxy
          have hM := Lib.hid (HNX.out hxy)
          have hj := HL.out
          clear hxy
          go_wp2_with fail
          go_quiet (fail)
          go_wp2
          go_roundw
          case rel => exact ⟨k + 1, by omega, by go_num, hM.out _ ((Fp.refl _ _).drewN _)⟩
          case measure => simp [RowKit.intOf]; omega
        · have q5 : decide (x = y) = false := decide_eq_false hxy
          have q6 : (x = y) = False := eq_false hxy
          have HN := Lib.hid (HNO.out hxy)
          clear hxy
          go_wp2_with fail
          go_quiet (fail)
          go_wp2
          go_ret
          exact ⟨by rw [decide_eq_false HN.out]; rfl, hR.out.fp.drewN _⟩
      · have hke : k = n := by omega
        subst hke
        have q3 : ((k : Int) < (k : Int)) = False := eq_false (by omega)
        have hfin : a = b := by
          have := hR.out.eq
          rw [HX.out.1, List.take_length, ← HX.out.1, HX.out.2.1, List.take_length] at this; exact this
        have HFN := Lib.hid hfin
        clear hlt hk hfin
        go_wp2
        go_ret
        exact ⟨by rw [decide_eq_true HFN.out]; rfl, hR.out.fp⟩
  · have HN := Lib.hid (show a ≠ b from fun h => hl (by rw [h]))
    have q1 : ((a.length : Int) == (b.length : Int)) = false := beq_eq_false_iff_ne.2 (by omega)
    have q2 : ((a.length : Int) = (b.length : Int)) = False := eq_false (by omega)
    have q3 : (a.length == b.length) = false := beq_eq_false_iff_ne.2 hl
    have q4 : (a.length = b.length) = False := eq_false hl
    clear hl hva hvb hn hm
    go_enter Try.func26, Try.ntmps26
    go_wp2
    go_ret
    exact ⟨by rw [decide_eq_false HN.out]; rfl, Fp.refl _ _⟩
end Go.Proofs.Ytlmfinpmlilcgaa

