/- A text of this proof. -/
import Derived.Test.YtlmfinpmlilcgaaQUa
set_option linter.unusedVariables false
set_option linter.unusedSimpArgs false
/- CommandFields, field 3. (gen_ua.py) -/
namespace Go.Proofs.Ytlmfinpmlilcgaa
set_option maxRecDepth 20000
set_option linter.unusedVariables false
set_option linter.unusedSimpArgs false
open Go.RowKit Pm

set_option maxHeartbeats 32000000 in
theorem CommandFields_3 (v : Value) (c : Cd) (n q : Int) (w : World) (hv : CdW w v c) (hln : Ln c) (hn : -9223372036854775808 ≤ n ∧ n ≤ 9223372036854775807) (hq : 0 ≤ q ∧ q ≤ 255) (hm : q.tmod 7 = 3) :
    Calls Try.prog 5 #[v, .int .i64 n, .int .u8 q] w fun e w' => e = .returned (.bool true) ∧ Fp Non w w' := by
  obtain ⟨vp, vn, vt, vg, rfl, f1, f2, f3, f4⟩ := hv.ex
  have hbx := heap_alloc_new w (.cells (cdL c vp vn vt vg) TCD)
  have hfa := fp_alloc w (.cells (cdL c vp vn vt vg) TCD)
  have hGr := fun W (f : Fp Non w W) => cGreat_c _ c W (hv.non f) hln
  have hRi := fun W (f : Fp Non w W) (h : Fw c) => cRight_c _ c W (hv.non f) h
  obtain ⟨w0, hw0⟩ : ∃ w0, w0 = w.alloc (.cells (cdL c vp vn vt vg) TCD) := ⟨_, rfl⟩
  rw [← hw0] at hbx hfa
  have HH := Lib.hid (head_c w0)
  have H0 := Lib.hid (And.intro hbx hfa)
  have HV := Lib.hid (And.intro f1 (And.intro f2 (And.intro f3 f4)))
  have HC := Lib.hid (And.intro hGr hRi)
  have HN := Lib.hid (And.intro hn hq)
  clear f1 f2 f3 f4 hv hln hbx hfa hGr hRi hn hq
  unfold cdL at hw0 HC ⊢
  go_enter Try.func5, Try.ntmps5
  go_wp2_with fail
  rw [show (31 : TypeId) = TCD from rfl, ← hw0]
  clear hw0
  refine HH.out.mono ?_
  rintro e w1 ⟨rfl, g1⟩
  have hb1 := g1.heap H0.out.1 (fun h => h)
  have HF1 := Lib.hid (H0.out.2.then g1)
  have HB1 := Lib.hid hb1
  have b := bxC (c := c) hb1
  have d0 := b.c0; have d1 := b.c1; have d2 := b.c2; have d3 := b.c3; have d4 := b.c4; have d5 := b.c5; have d6 := b.c6; have d7 := b.c7; have d8 := b.c8; have d9 := b.c9; have d10 := b.c10; have d11 := b.c11; have d12 := b.c12; have d13 := b.c13; have d14 := b.c14; have d15 := b.c15
  clear g1 hb1 b HH
  go_wp2_with fail
  refine (HC.out.1 _ HF1.out).mono ?_
  rintro e w2 ⟨g, rfl, hg, hf⟩
  have hb2 := hf.heap HB1.out (fun h => h)
  have HF2 := Lib.hid (HF1.out.then hf)
  have HB2 := Lib.hid hb2
  clear hf d0 d1 d2 d3 d4 d5 d6 d7 d8 d9 d10 d11 d12 d13 d14 d15
  have b := bxC (c := c) hb2
  have d0 := b.c0; have d1 := b.c1; have d2 := b.c2; have d3 := b.c3; have d4 := b.c4; have d5 := b.c5; have d6 := b.c6; have d7 := b.c7; have d8 := b.c8; have d9 := b.c9; have d10 := b.c10; have d11 := b.c11; have d12 := b.c12; have d13 := b.c13; have d14 := b.c14; have d15 := b.c15
  clear hb2 b
  cases g with
  | true =>
    clear hg
    go_wp2
    go_ret
    exact ⟨rfl, HF2.out⟩
  | false =>
  have HW := Lib.hid (hg rfl)
  clear hg
  go_wp2_with fail
  refine (HC.out.2 _ HF2.out HW.out).mono ?_
  rintro e w3 ⟨rfl, hf⟩
  have hb3 := hf.heap HB2.out (fun h => h)
  have HF3 := Lib.hid (HF2.out.then hf)
  have HB3 := Lib.hid hb3
  clear hf d0 d1 d2 d3 d4 d5 d6 d7 d8 d9 d10 d11 d12 d13 d14 d15 HC
  obtain ⟨r, hr⟩ : ∃ r, rightC c = r := ⟨_, rfl⟩
  rw [hr]
  cases r with
  | false =>
    clear hr hb3
    go_wp2
    go_ret
    exact ⟨rfl, HF3.out⟩
  | true =>
  have HCR := Lib.hid ((rightC_iff c).1 hr)
  clear hr hb3
  have HFP := Lib.hid (fun (o : Nat) (x : Value) => show Fp Non w (w3.setCell ⟨w.heap.size, o, none⟩ x) from HF3.out.setCell (p := ⟨w.heap.size, o, none⟩) (.inr (Nat.le_refl _)) x)
  have HSH := Lib.hid (fun (o : Nat) (x : Value) => set_heap HB3.out o x)
  have HCW := Lib.hid (fun W (f : Fp Non w W) => And.intro (HV.out.1.non f) (And.intro (HV.out.2.1.non f) (And.intro (HV.out.2.2.1.non f) (HV.out.2.2.2.non f))))
  · by_cases k1 : 0 ≤ n
    · by_cases k2 : n ≤ 281474976710656
      · have t1 : (0 ≤ n) = True := eq_true k1
        have t2 : (n ≤ 281474976710656) = True := eq_true k2
        have hR := cRight_c (.agg #[.int .i64 c.kind, .int .i64 c.id, .int .i64 c.txn, .int .i64 c.age, .bool c.yes, vp, .string (B c.pre), .int .i64 n, .int .i64 c.to, vn, vt, vg, .int .i64 c.ws, .int .i64 c.wn, .string (B c.wp), .bool c.deep]) { c with ep := n } (w3.setCell ⟨w.heap.size, 7, none⟩ (.int .i64 n)) ⟨vp, vn, vt, vg, rfl, (HCW.out _ (HFP.out _ _)).1, (HCW.out _ (HFP.out _ _)).2.1, (HCW.out _ (HFP.out _ _)).2.2.1, (HCW.out _ (HFP.out _ _)).2.2.2⟩ ⟨HW.out.pre, HW.out.wp, HW.out.psn, HW.out.ps, HW.out.nn, HW.out.nodes, HW.out.tn, HW.out.turns, HW.out.gn, HW.out.gone⟩
        rw [rightC_true ((CdR_ep HCR.out n).2 ⟨k1, k2⟩)] at hR
        have HR := Lib.hid hR
        have hx := HSH.out 7 (.int .i64 n)
        unfold cdL at hx
        simp only [List.setIfInBounds_toArray, List.set_cons_zero, List.set_cons_succ] at hx
        have d0 := cell_of_row _ _ 0 _ _ _ hx
        have d1 := cell_of_row _ _ 1 _ _ _ hx
        have d2 := cell_of_row _ _ 2 _ _ _ hx
        have d3 := cell_of_row _ _ 3 _ _ _ hx
        have d4 := cell_of_row _ _ 4 _ _ _ hx
        have d5 := cell_of_row _ _ 5 _ _ _ hx
        have d6 := cell_of_row _ _ 6 _ _ _ hx
        have d7 := cell_of_row _ _ 7 _ _ _ hx
        have d8 := cell_of_row _ _ 8 _ _ _ hx
        have d9 := cell_of_row _ _ 9 _ _ _ hx
        have d10 := cell_of_row _ _ 10 _ _ _ hx
        have d11 := cell_of_row _ _ 11 _ _ _ hx
        have d12 := cell_of_row _ _ 12 _ _ _ hx
        have d13 := cell_of_row _ _ 13 _ _ _ hx
        have d14 := cell_of_row _ _ 14 _ _ _ hx
        have d15 := cell_of_row _ _ 15 _ _ _ hx
        simp only [List.getElem?_toArray, List.getElem?_cons_zero, List.getElem?_cons_succ] at d0 d1 d2 d3 d4 d5 d6 d7 d8 d9 d10 d11 d12 d13 d14 d15
        have z := frz HB3.out 7
        have o := cell_of_row _ _ 7 _ _ _ HB3.out
        unfold cdL at o
        simp only [List.getElem?_toArray, List.getElem?_cons_zero, List.getElem?_cons_succ] at o
        have HFE := Lib.hid (HFP.out 7 (.int .i64 n))
        clear hR hx k1 k2
        go_wp2_with fail
        refine HR.out.mono ?_
        rintro e w4 ⟨rfl, hf⟩
        have HFF := Lib.hid (HFE.out.then hf)
        clear hf
        go_wp2
        go_ret
        exact ⟨rfl, HFF.out⟩
      · have t1 : (0 ≤ n) = True := eq_true k1
        have t2 : (n ≤ 281474976710656) = False := eq_false k2
        have hR := cRight_c (.agg #[.int .i64 c.kind, .int .i64 c.id, .int .i64 c.txn, .int .i64 c.age, .bool c.yes, vp, .string (B c.pre), .int .i64 n, .int .i64 c.to, vn, vt, vg, .int .i64 c.ws, .int .i64 c.wn, .string (B c.wp), .bool c.deep]) { c with ep := n } (w3.setCell ⟨w.heap.size, 7, none⟩ (.int .i64 n)) ⟨vp, vn, vt, vg, rfl, (HCW.out _ (HFP.out _ _)).1, (HCW.out _ (HFP.out _ _)).2.1, (HCW.out _ (HFP.out _ _)).2.2.1, (HCW.out _ (HFP.out _ _)).2.2.2⟩ ⟨HW.out.pre, HW.out.wp, HW.out.psn, HW.out.ps, HW.out.nn, HW.out.nodes, HW.out.tn, HW.out.turns, HW.out.gn, HW.out.gone⟩
        rw [rightC_false (fun h => k2 ((CdR_ep HCR.out n).1 h).2)] at hR
        have HR := Lib.hid hR
        have hx := HSH.out 7 (.int .i64 n)
        unfold cdL at hx
        simp only [List.setIfInBounds_toArray, List.set_cons_zero, List.set_cons_succ] at hx
        have d0 := cell_of_row _ _ 0 _ _ _ hx
        have d1 := cell_of_row _ _ 1 _ _ _ hx
        have d2 := cell_of_row _ _ 2 _ _ _ hx
        have d3 := cell_of_row _ _ 3 _ _ _ hx
        have d4 := cell_of_row _ _ 4 _ _ _ hx
        have d5 := cell_of_row _ _ 5 _ _ _ hx
        have d6 := cell_of_row _ _ 6 _ _ _ hx
        have d7 := cell_of_row _ _ 7 _ _ _ hx
        have d8 := cell_of_row _ _ 8 _ _ _ hx
        have d9 := cell_of_row _ _ 9 _ _ _ hx
        have d10 := cell_of_row _ _ 10 _ _ _ hx
        have d11 := cell_of_row _ _ 11 _ _ _ hx
        have d12 := cell_of_row _ _ 12 _ _ _ hx
        have d13 := cell_of_row _ _ 13 _ _ _ hx
        have d14 := cell_of_row _ _ 14 _ _ _ hx
        have d15 := cell_of_row _ _ 15 _ _ _ hx
        simp only [List.getElem?_toArray, List.getElem?_cons_zero, List.getElem?_cons_succ] at d0 d1 d2 d3 d4 d5 d6 d7 d8 d9 d10 d11 d12 d13 d14 d15
        have z := frz HB3.out 7
        have o := cell_of_row _ _ 7 _ _ _ HB3.out
        unfold cdL at o
        simp only [List.getElem?_toArray, List.getElem?_cons_zero, List.getElem?_cons_succ] at o
        have HFE := Lib.hid (HFP.out 7 (.int .i64 n))
        clear hR hx k1 k2
        go_wp2_with fail
        refine HR.out.mono ?_
        rintro e w4 ⟨rfl, hf⟩
        have HFF := Lib.hid (HFE.out.then hf)
        clear hf
        go_wp2
        go_ret
        exact ⟨rfl, HFF.out⟩
    · have t1 : (0 ≤ n) = False := eq_false k1
      have hR := cRight_c (.agg #[.int .i64 c.kind, .int .i64 c.id, .int .i64 c.txn, .int .i64 c.age, .bool c.yes, vp, .string (B c.pre), .int .i64 n, .int .i64 c.to, vn, vt, vg, .int .i64 c.ws, .int .i64 c.wn, .string (B c.wp), .bool c.deep]) { c with ep := n } (w3.setCell ⟨w.heap.size, 7, none⟩ (.int .i64 n)) ⟨vp, vn, vt, vg, rfl, (HCW.out _ (HFP.out _ _)).1, (HCW.out _ (HFP.out _ _)).2.1, (HCW.out _ (HFP.out _ _)).2.2.1, (HCW.out _ (HFP.out _ _)).2.2.2⟩ ⟨HW.out.pre, HW.out.wp, HW.out.psn, HW.out.ps, HW.out.nn, HW.out.nodes, HW.out.tn, HW.out.turns, HW.out.gn, HW.out.gone⟩
      rw [rightC_false (fun h => k1 ((CdR_ep HCR.out n).1 h).1)] at hR
      have HR := Lib.hid hR
      have hx := HSH.out 7 (.int .i64 n)
      unfold cdL at hx
      simp only [List.setIfInBounds_toArray, List.set_cons_zero, List.set_cons_succ] at hx
      have d0 := cell_of_row _ _ 0 _ _ _ hx
      have d1 := cell_of_row _ _ 1 _ _ _ hx
      have d2 := cell_of_row _ _ 2 _ _ _ hx
      have d3 := cell_of_row _ _ 3 _ _ _ hx
      have d4 := cell_of_row _ _ 4 _ _ _ hx
      have d5 := cell_of_row _ _ 5 _ _ _ hx
      have d6 := cell_of_row _ _ 6 _ _ _ hx
      have d7 := cell_of_row _ _ 7 _ _ _ hx
      have d8 := cell_of_row _ _ 8 _ _ _ hx
      have d9 := cell_of_row _ _ 9 _ _ _ hx
      have d10 := cell_of_row _ _ 10 _ _ _ hx
      have d11 := cell_of_row _ _ 11 _ _ _ hx
      have d12 := cell_of_row _ _ 12 _ _ _ hx
      have d13 := cell_of_row _ _ 13 _ _ _ hx
      have d14 := cell_of_row _ _ 14 _ _ _ hx
      have d15 := cell_of_row _ _ 15 _ _ _ hx
      simp only [List.getElem?_toArray, List.getElem?_cons_zero, List.getElem?_cons_succ] at d0 d1 d2 d3 d4 d5 d6 d7 d8 d9 d10 d11 d12 d13 d14 d15
      have z := frz HB3.out 7
      have o := cell_of_row _ _ 7 _ _ _ HB3.out
      unfold cdL at o
      simp only [List.getElem?_toArray, List.getElem?_cons_zero, List.getElem?_cons_succ] at o
      have HFE := Lib.hid (HFP.out 7 (.int .i64 n))
      clear hR hx k1
      go_wp2_with fail
      refine HR.out.mono ?_
      rintro e w4 ⟨rfl, hf⟩
      have HFF := Lib.hid (HFE.out.then hf)
      clear hf
      go_wp2
      go_ret
      exact ⟨rfl, HFF.out⟩
end Go.Proofs.Ytlmfinpmlilcgaa
