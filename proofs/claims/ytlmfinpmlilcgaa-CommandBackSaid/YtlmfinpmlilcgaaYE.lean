/- Texts of this proof, merged. -/
import Derived.Test.YtlmfinpmlilcgaaYD
set_option linter.unusedVariables false
set_option linter.unusedSimpArgs false
/- The document's Same at commands. (gen_gr.py) -/
namespace Go.Proofs.Ytlmfinpmlilcgaa
set_option maxRecDepth 20000
set_option linter.unusedVariables false
set_option linter.unusedSimpArgs false
open Go.RowKit Pm

abbrev TWT : TypeId := 29
theorem fTwt : (Try.prog.fieldsOf TWT).toList = [⟨ "Session", 2, 0, false, "", "", 0⟩, ⟨ "Num", 2, 1, false, "", "", 8⟩, ⟨ "Path", 9, 2, false, "", "", 16⟩, ⟨ "Deep", 4, 3, false, "", "", 32⟩] := by kernel_rfl
theorem eq_wts (w : World) (a b c d : Int) (p q : Bs) (x y : Bool) : (Op.equalIn 10000 TWT (.agg #[.int .i64 a, .int .i64 b, .string (B p), .bool x]) (.agg #[.int .i64 c, .int .i64 d, .string (B q), .bool y])).run Try.prog w = .ok (decide (a = c ∧ b = d ∧ p = q ∧ x = y)) w := by
  rw [run_equalIn_agg w 9999 TWT _ _ (by kernel_rfl) (by kernel_rfl), fTwt]
  have e2 := fun w a b => run_equalIn_int (P := Try.prog) w 9998 2 .i64 .i64 a b Try.underlying2
  have e3 := fun w a b => run_equalIn_string (P := Try.prog) w 9998 9 a b Try.underlying9
  have e4 := fun w a b => run_equalIn_bool' (P := Try.prog) w 9998 4 a b Try.underlying4
  simp only [Op.eqFields]
  simp [e2, e3, e4, go_sem, B_list]
  by_cases h1 : a = c <;> by_cases h2 : b = d <;> by_cases h3 : p = q <;> by_cases h4 : x = y <;> simp [h1, h2, h3, h4]

set_option maxHeartbeats 32000000 in
theorem cSame_c (va vb : Value) (c d : Cd) (w : World) (hva : CdW w va c) (hvb : CdW w vb d) (hc : Fw c) (hd : Fw d) :
    Calls Try.prog 12 #[va, vb] w fun e w' => e = .returned (.bool (decide (c = d))) ∧ Fp Non w w' := by
  obtain ⟨vp, vn, vt, vg, rfl, f1, f2, f3, f4⟩ := hva.ex
  obtain ⟨vp', vn', vt', vg', rfl, g1, g2, g3, g4⟩ := hvb.ex
  have hx := fun W (f : Fp Non w W) => rSameX_c vg vg' c.gone d.gone W (f4.non f) (g4.non f) hc.gn hd.gn
  have hp := fun W (f : Fp Non w W) => rSameP_c vp vp' c.ps d.ps W (f1.non f) (g1.non f) hc.psn hd.psn
  have hs := fun W (f : Fp Non w W) => rSameS_c (.agg #[vn, vt]) (.agg #[vn', vt']) c.st d.st W ⟨_, _, rfl, f2.non f, f3.non f⟩ ⟨_, _, rfl, g2.non f, g3.non f⟩ hc.nn hd.nn hc.tn hd.tn
  obtain ⟨ap, cp, rfl⟩ := f1.shape
  obtain ⟨an, cn, rfl⟩ := f2.shape
  obtain ⟨at0, ct, rfl⟩ := f3.shape
  obtain ⟨ag, cg, rfl⟩ := f4.shape
  obtain ⟨ap', cp', rfl⟩ := g1.shape
  obtain ⟨an', cn', rfl⟩ := g2.shape
  obtain ⟨at', ct', rfl⟩ := g3.shape
  obtain ⟨ag', cg', rfl⟩ := g4.shape
  clear f1 f2 f3 f4 g1 g2 g3 g4 hva hvb hc hd
  obtain ⟨k, i, t, a, y, ps, pre, ep, to, ⟨ns, ts⟩, gn, ws, wn, wp, dp⟩ := c
  obtain ⟨k', i', t', a', y', ps', pre', ep', to', ⟨ns', ts'⟩, gn', ws', wn', wp', dp'⟩ := d
  simp only [cdL] at hx hp hs ⊢
  have HX := Lib.hid (And.intro hx (And.intro hp hs))
  clear hx hp hs
  have heq := eq_wts
  have hf := (fp_alloc w (.cells #[.int .i64 k, .int .i64 i, .int .i64 t, .int .i64 a, .bool y, .slice ap ps.length cp, .string (B pre), .int .i64 ep, .int .i64 to, .slice an ns.length cn, .slice at0 ts.length ct, .slice ag gn.length cg, .int .i64 ws, .int .i64 wn, .string (B wp), .bool dp] TCD)).then (fp_alloc (w.alloc (.cells #[.int .i64 k, .int .i64 i, .int .i64 t, .int .i64 a, .bool y, .slice ap ps.length cp, .string (B pre), .int .i64 ep, .int .i64 to, .slice an ns.length cn, .slice at0 ts.length ct, .slice ag gn.length cg, .int .i64 ws, .int .i64 wn, .string (B wp), .bool dp] TCD)) (.cells #[.int .i64 k', .int .i64 i', .int .i64 t', .int .i64 a', .bool y', .slice ap' ps'.length cp', .string (B pre'), .int .i64 ep', .int .i64 to', .slice an' ns'.length cn', .slice at' ts'.length ct', .slice ag' gn'.length cg', .int .i64 ws', .int .i64 wn', .string (B wp'), .bool dp'] TCD))
  have hb0 := (fp_alloc (w.alloc (.cells #[.int .i64 k, .int .i64 i, .int .i64 t, .int .i64 a, .bool y, .slice ap ps.length cp, .string (B pre), .int .i64 ep, .int .i64 to, .slice an ns.length cn, .slice at0 ts.length ct, .slice ag gn.length cg, .int .i64 ws, .int .i64 wn, .string (B wp), .bool dp] TCD)) (.cells #[.int .i64 k', .int .i64 i', .int .i64 t', .int .i64 a', .bool y', .slice ap' ps'.length cp', .string (B pre'), .int .i64 ep', .int .i64 to', .slice an' ns'.length cn', .slice at' ts'.length ct', .slice ag' gn'.length cg', .int .i64 ws', .int .i64 wn', .string (B wp'), .bool dp'] TCD)).heap (heap_alloc_new w (.cells #[.int .i64 k, .int .i64 i, .int .i64 t, .int .i64 a, .bool y, .slice ap ps.length cp, .string (B pre), .int .i64 ep, .int .i64 to, .slice an ns.length cn, .slice at0 ts.length ct, .slice ag gn.length cg, .int .i64 ws, .int .i64 wn, .string (B wp), .bool dp] TCD)) (fun h => h)
  have hb1 := heap_alloc_new (w.alloc (.cells #[.int .i64 k, .int .i64 i, .int .i64 t, .int .i64 a, .bool y, .slice ap ps.length cp, .string (B pre), .int .i64 ep, .int .i64 to, .slice an ns.length cn, .slice at0 ts.length ct, .slice ag gn.length cg, .int .i64 ws, .int .i64 wn, .string (B wp), .bool dp] TCD)) (.cells #[.int .i64 k', .int .i64 i', .int .i64 t', .int .i64 a', .bool y', .slice ap' ps'.length cp', .string (B pre'), .int .i64 ep', .int .i64 to', .slice an' ns'.length cn', .slice at' ts'.length ct', .slice ag' gn'.length cg', .int .i64 ws', .int .i64 wn', .string (B wp'), .bool dp'] TCD)
  rw [show (w.alloc (.cells #[.int .i64 k, .int .i64 i, .int .i64 t, .int .i64 a, .bool y, .slice ap ps.length cp, .string (B pre), .int .i64 ep, .int .i64 to, .slice an ns.length cn, .slice at0 ts.length ct, .slice ag gn.length cg, .int .i64 ws, .int .i64 wn, .string (B wp), .bool dp] TCD)).heap.size = w.heap.size + 1 from by simp] at hb1
  have HF := Lib.hid hf
  have HB0 := Lib.hid hb0
  have HB1 := Lib.hid hb1
  clear hf hb0 hb1
  by_cases h_k : k = k'
  rotate_left
  · as_aux_lemma =>
    have HN := Lib.hid (show (⟨k, i, t, a, y, ps, pre, ep, to, ⟨ns, ts⟩, gn, ws, wn, wp, dp⟩ : Cd) ≠ (⟨k', i', t', a', y', ps', pre', ep', to', ⟨ns', ts'⟩, gn', ws', wn', wp', dp'⟩ : Cd) from fun h => h_k (by injection h))
    have q1 : (k == k') = false := beq_eq_false_iff_ne.2 h_k
    have q2 : (k = k') = False := eq_false h_k
    have q3 : (k != k') = true := bne_iff_ne.2 h_k
    clear h_k
    go_enter Try.func12, Try.ntmps12
    go_wp2
    go_ret
    exact ⟨by rw [decide_eq_false HN.out]; rfl, HF.out⟩
  subst h_k
  by_cases h_i : i = i'
  rotate_left
  · as_aux_lemma =>
    have HN := Lib.hid (show (⟨k, i, t, a, y, ps, pre, ep, to, ⟨ns, ts⟩, gn, ws, wn, wp, dp⟩ : Cd) ≠ (⟨k, i', t', a', y', ps', pre', ep', to', ⟨ns', ts'⟩, gn', ws', wn', wp', dp'⟩ : Cd) from fun h => h_i (by injection h))
    have q1 : (i == i') = false := beq_eq_false_iff_ne.2 h_i
    have q2 : (i = i') = False := eq_false h_i
    have q3 : (i != i') = true := bne_iff_ne.2 h_i
    clear h_i
    go_enter Try.func12, Try.ntmps12
    go_wp2
    go_ret
    exact ⟨by rw [decide_eq_false HN.out]; rfl, HF.out⟩
  subst h_i
  by_cases h_t : t = t'
  rotate_left
  · as_aux_lemma =>
    have HN := Lib.hid (show (⟨k, i, t, a, y, ps, pre, ep, to, ⟨ns, ts⟩, gn, ws, wn, wp, dp⟩ : Cd) ≠ (⟨k, i, t', a', y', ps', pre', ep', to', ⟨ns', ts'⟩, gn', ws', wn', wp', dp'⟩ : Cd) from fun h => h_t (by injection h))
    have q1 : (t == t') = false := beq_eq_false_iff_ne.2 h_t
    have q2 : (t = t') = False := eq_false h_t
    have q3 : (t != t') = true := bne_iff_ne.2 h_t
    clear h_t
    go_enter Try.func12, Try.ntmps12
    go_wp2
    go_ret
    exact ⟨by rw [decide_eq_false HN.out]; rfl, HF.out⟩
  subst h_t
  by_cases h_a : a = a'
  rotate_left
  · as_aux_lemma =>
    have HN := Lib.hid (show (⟨k, i, t, a, y, ps, pre, ep, to, ⟨ns, ts⟩, gn, ws, wn, wp, dp⟩ : Cd) ≠ (⟨k, i, t, a', y', ps', pre', ep', to', ⟨ns', ts'⟩, gn', ws', wn', wp', dp'⟩ : Cd) from fun h => h_a (by injection h))
    have q1 : (a == a') = false := beq_eq_false_iff_ne.2 h_a
    have q2 : (a = a') = False := eq_false h_a
    have q3 : (a != a') = true := bne_iff_ne.2 h_a
    clear h_a
    go_enter Try.func12, Try.ntmps12
    go_wp2
    go_ret
    exact ⟨by rw [decide_eq_false HN.out]; rfl, HF.out⟩
  subst h_a
  by_cases h_y : y = y'
  rotate_left
  · as_aux_lemma =>
    have HN := Lib.hid (show (⟨k, i, t, a, y, ps, pre, ep, to, ⟨ns, ts⟩, gn, ws, wn, wp, dp⟩ : Cd) ≠ (⟨k, i, t, a, y', ps', pre', ep', to', ⟨ns', ts'⟩, gn', ws', wn', wp', dp'⟩ : Cd) from fun h => h_y (by injection h))
    have q1 : (y == y') = false := beq_eq_false_iff_ne.2 h_y
    have q2 : (y = y') = False := eq_false h_y
    have q3 : (y != y') = true := bne_iff_ne.2 h_y
    clear h_y
    go_enter Try.func12, Try.ntmps12
    go_wp2
    go_ret
    exact ⟨by rw [decide_eq_false HN.out]; rfl, HF.out⟩
  subst h_y
  by_cases h_pre : pre = pre'
  rotate_left
  · as_aux_lemma =>
    have HN := Lib.hid (show (⟨k, i, t, a, y, ps, pre, ep, to, ⟨ns, ts⟩, gn, ws, wn, wp, dp⟩ : Cd) ≠ (⟨k, i, t, a, y, ps', pre', ep', to', ⟨ns', ts'⟩, gn', ws', wn', wp', dp'⟩ : Cd) from fun h => h_pre (by injection h))
    have q1 : (pre == pre') = false := beq_eq_false_iff_ne.2 h_pre
    have q2 : (pre = pre') = False := eq_false h_pre
    have q3 : (pre != pre') = true := bne_iff_ne.2 h_pre
    clear h_pre
    go_enter Try.func12, Try.ntmps12
    go_wp2
    go_ret
    exact ⟨by rw [decide_eq_false HN.out]; rfl, HF.out⟩
  subst h_pre
  by_cases h_ep : ep = ep'
  rotate_left
  · as_aux_lemma =>
    have HN := Lib.hid (show (⟨k, i, t, a, y, ps, pre, ep, to, ⟨ns, ts⟩, gn, ws, wn, wp, dp⟩ : Cd) ≠ (⟨k, i, t, a, y, ps', pre, ep', to', ⟨ns', ts'⟩, gn', ws', wn', wp', dp'⟩ : Cd) from fun h => h_ep (by injection h))
    have q1 : (ep == ep') = false := beq_eq_false_iff_ne.2 h_ep
    have q2 : (ep = ep') = False := eq_false h_ep
    have q3 : (ep != ep') = true := bne_iff_ne.2 h_ep
    clear h_ep
    go_enter Try.func12, Try.ntmps12
    go_wp2
    go_ret
    exact ⟨by rw [decide_eq_false HN.out]; rfl, HF.out⟩
  subst h_ep
  by_cases h_to : to = to'
  rotate_left
  · as_aux_lemma =>
    have HN := Lib.hid (show (⟨k, i, t, a, y, ps, pre, ep, to, ⟨ns, ts⟩, gn, ws, wn, wp, dp⟩ : Cd) ≠ (⟨k, i, t, a, y, ps', pre, ep, to', ⟨ns', ts'⟩, gn', ws', wn', wp', dp'⟩ : Cd) from fun h => h_to (by injection h))
    have q1 : (to == to') = false := beq_eq_false_iff_ne.2 h_to
    have q2 : (to = to') = False := eq_false h_to
    have q3 : (to != to') = true := bne_iff_ne.2 h_to
    clear h_to
    go_enter Try.func12, Try.ntmps12
    go_wp2
    go_ret
    exact ⟨by rw [decide_eq_false HN.out]; rfl, HF.out⟩
  subst h_to
  by_cases h_w : ws = ws' ∧ wn = wn' ∧ wp = wp' ∧ dp = dp'
  rotate_left
  · as_aux_lemma =>
    have HN := Lib.hid (show (⟨k, i, t, a, y, ps, pre, ep, to, ⟨ns, ts⟩, gn, ws, wn, wp, dp⟩ : Cd) ≠ (⟨k, i, t, a, y, ps', pre, ep, to, ⟨ns', ts'⟩, gn', ws', wn', wp', dp'⟩ : Cd) from fun h => h_w (by injection h; exact ⟨‹_›, ‹_›, ‹_›, ‹_›⟩))
    have q1 : decide (ws = ws' ∧ wn = wn' ∧ wp = wp' ∧ dp = dp') = false := decide_eq_false h_w
    have q2 : (ws = ws' ∧ wn = wn' ∧ wp = wp' ∧ dp = dp') = False := eq_false h_w
    clear h_w
    go_enter Try.func12, Try.ntmps12
    go_wp2
    go_ret
    exact ⟨by rw [decide_eq_false HN.out]; rfl, HF.out⟩
  obtain ⟨rfl, rfl, rfl, rfl⟩ := h_w
  have q1 : decide (ws = ws ∧ wn = wn ∧ wp = wp ∧ dp = dp) = true := decide_eq_true ⟨rfl, rfl, rfl, rfl⟩
  have d11 := cell_of_row _ _ 11 _ _ _ HB0.out
  have e11 := cell_of_row _ _ 11 _ _ _ HB1.out
  simp only [List.getElem?_toArray, List.getElem?_cons_zero, List.getElem?_cons_succ] at d11 e11
  have hc1 := HX.out.1 _ HF.out
  have HC1 := Lib.hid hc1
  clear hc1
  clear d11 e11
  go_enter Try.func12, Try.ntmps12
  go_wp2_with fail
  refine HC1.out.mono ?_
  rintro e w1 ⟨rfl, hf1⟩
  have hb0 := hf1.heap HB0.out (fun h => h)
  have hb1 := hf1.heap HB1.out (fun h => h)
  have HF1 := Lib.hid (HF.out.then hf1)
  have HB2 := Lib.hid (And.intro hb0 hb1)
  have d5 := cell_of_row _ _ 5 _ _ _ hb0
  have e5 := cell_of_row _ _ 5 _ _ _ hb1
  simp only [List.getElem?_toArray, List.getElem?_cons_zero, List.getElem?_cons_succ] at d5 e5
  clear hf1 hb0 hb1 HC1
  by_cases h_g : gn = gn'
  rotate_left
  · as_aux_lemma =>
    have HN := Lib.hid (show (⟨k, i, t, a, y, ps, pre, ep, to, ⟨ns, ts⟩, gn, ws, wn, wp, dp⟩ : Cd) ≠ (⟨k, i, t, a, y, ps', pre, ep, to, ⟨ns', ts'⟩, gn', ws, wn, wp, dp⟩ : Cd) from fun h => h_g (by injection h))
    rw [decide_eq_false h_g]
    clear h_g
    go_wp2
    go_ret
    exact ⟨by rw [decide_eq_false HN.out]; rfl, HF1.out⟩
  rw [decide_eq_true h_g]
  have HC2 := Lib.hid (HX.out.2.1 _ HF1.out)
  go_wp2_with fail
  refine HC2.out.mono ?_
  rintro e w2 ⟨rfl, hf2⟩
  have hb0 := hf2.heap HB2.out.1 (fun h => h)
  have hb1 := hf2.heap HB2.out.2 (fun h => h)
  have HF2 := Lib.hid (HF1.out.then hf2)
  clear d5 e5
  have d9 := cell_of_row _ _ 9 _ _ _ hb0
  have e9 := cell_of_row _ _ 9 _ _ _ hb1
  have d10 := cell_of_row _ _ 10 _ _ _ hb0
  have e10 := cell_of_row _ _ 10 _ _ _ hb1
  simp only [List.getElem?_toArray, List.getElem?_cons_zero, List.getElem?_cons_succ] at d9 e9 d10 e10
  clear hf2 hb0 hb1 HC2
  by_cases h_p : ps = ps'
  rotate_left
  · as_aux_lemma =>
    have HN := Lib.hid (show (⟨k, i, t, a, y, ps, pre, ep, to, ⟨ns, ts⟩, gn, ws, wn, wp, dp⟩ : Cd) ≠ (⟨k, i, t, a, y, ps', pre, ep, to, ⟨ns', ts'⟩, gn', ws, wn, wp, dp⟩ : Cd) from fun h => h_p (by injection h))
    rw [decide_eq_false h_p]
    clear h_p
    go_wp2
    go_ret
    exact ⟨by rw [decide_eq_false HN.out]; rfl, HF2.out⟩
  rw [decide_eq_true h_p]
  have HC3 := Lib.hid (HX.out.2.2 _ HF2.out)
  go_wp2_with fail
  refine HC3.out.mono ?_
  rintro e w3 ⟨rfl, hf3⟩
  have HF3 := Lib.hid (HF2.out.then hf3)
  clear d9 e9 d10 e10 hf3 HC3
  by_cases h_s : (⟨ns, ts⟩ : St) = ⟨ns', ts'⟩
  rotate_left
  · as_aux_lemma =>
    have HN := Lib.hid (show (⟨k, i, t, a, y, ps, pre, ep, to, ⟨ns, ts⟩, gn, ws, wn, wp, dp⟩ : Cd) ≠ (⟨k, i, t, a, y, ps', pre, ep, to, ⟨ns', ts'⟩, gn', ws, wn, wp, dp⟩ : Cd) from fun h => h_s (by injection h))
    rw [decide_eq_false h_s]
    clear h_s
    go_wp2
    go_ret
    exact ⟨by rw [decide_eq_false HN.out]; rfl, HF3.out⟩
  have HN := Lib.hid (show (⟨k, i, t, a, y, ps, pre, ep, to, ⟨ns, ts⟩, gn, ws, wn, wp, dp⟩ : Cd) = (⟨k, i, t, a, y, ps', pre, ep, to, ⟨ns', ts'⟩, gn', ws, wn, wp, dp⟩ : Cd) from by injection h_s with z1 z2; subst z1 z2 h_g h_p; rfl)
  rw [decide_eq_true h_s]
  clear h_s h_g h_p
  go_wp2
  go_ret
  exact ⟨by rw [decide_eq_true HN.out]; rfl, HF3.out⟩
end Go.Proofs.Ytlmfinpmlilcgaa

