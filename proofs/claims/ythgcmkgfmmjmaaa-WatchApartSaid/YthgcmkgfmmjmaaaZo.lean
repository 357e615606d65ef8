/- WatchApart (gen_zo.py) -/
import Derived.Test.YthgcmkgfmmjmaaaZn
namespace Go.Proofs.Ythgcmkgfmmjmaaa
set_option maxRecDepth 20000
set_option linter.unusedVariables false
set_option linter.unusedSimpArgs false
open Go.RowKit Pm


/-- Two boxes, and what is in them. -/
structure ApS (w : World) (b6 : Nat) (va vb : Value) (A B : Wd) (wr : World) : Prop where
  fp : Fp Non w wr
  lo : w.heap.size ≤ b6
  wa : WdR wr va A
  wb : WdR wr vb B
  r6 : ∃ a m c a2 m2 c2, va = .agg #[.slice a m c, .slice a2 m2 c2] ∧ wr.heap[b6]? = some (.cells #[.slice a m c, .slice a2 m2 c2] TD (0, 0))
  r7 : ∃ a m c a2 m2 c2, vb = .agg #[.slice a m c, .slice a2 m2 c2] ∧ wr.heap[b6 + 1]? = some (.cells #[.slice a m c, .slice a2 m2 c2] TD (0, 0))
structure ApN (A B : Wd) (k m : Nat) : Prop where
  ap : Ap A B
  n1 : A.ws.length ≤ k
  n2 : B.ws.length ≤ k + min k m
  s1 : A.ss.length ≤ 64 * k
  s2 : B.ss.length ≤ 128 * k
theorem ApS.non {w : World} {b6 : Nat} {va vb : Value} {A B : Wd} {wr w' : World} (h : ApS w b6 va vb A B wr) (f : Fp Non wr w') : ApS w b6 va vb A B w' := by
  obtain ⟨a, m, c, a2, m2, c2, e, r⟩ := h.r6
  obtain ⟨a', m', c', a2', m2', c2', e', r'⟩ := h.r7
  exact ⟨h.fp.then f, h.lo, h.wa.non f, h.wb.non f, ⟨_, _, _, _, _, _, e, f.heap r (fun h => h)⟩, ⟨_, _, _, _, _, _, e', f.heap r' (fun h => h)⟩⟩
def PutF (b : Nat) (a5 : Option Addr) (m5 c5 : Nat) (w5 : World) : Prop :=
  (∃ x0 x1, w5.cell? ⟨b, 0, none⟩ = some x0 ∧ w5.cell? ⟨b, 1, none⟩ = some x1 ∧ (w5.setCell ⟨b, 0, none⟩ (.slice a5 m5 c5)).cell? ⟨b, 1, none⟩ = some x1) ∧ w5.frozen? ⟨b, 0, none⟩ = false ∧ w5.frozen? ⟨b, 1, none⟩ = false ∧ (w5.setCell ⟨b, 0, none⟩ (.slice a5 m5 c5)).frozen? ⟨b, 1, none⟩ = false
theorem ApS.putA {w : World} {b6 : Nat} {va vb : Value} {A B A' : Wd} {wr w5 : World} {u : Value} (h : ApS w b6 va vb A B wr) (hu : WdR w5 u A') (f : Fp Non wr w5) :
    ∃ a5 m5 c5 d5 k5 e5, u = .agg #[.slice a5 m5 c5, .slice d5 k5 e5] ∧ PutF b6 a5 m5 c5 w5 ∧ ApS w b6 (.agg #[.slice a5 m5 c5, .slice d5 k5 e5]) vb A' B ((w5.setCell ⟨b6, 0, none⟩ (.slice a5 m5 c5)).setCell ⟨b6, 1, none⟩ (.slice d5 k5 e5)) ∧ Fp (fun k => k = b6) w5 ((w5.setCell ⟨b6, 0, none⟩ (.slice a5 m5 c5)).setCell ⟨b6, 1, none⟩ (.slice d5 k5 e5)) := by
  obtain ⟨a5, c5, d5, e5, rfl⟩ := hu.vals
  obtain ⟨a, m, c, a2, m2, c2, e, r⟩ := (h.non f).r6
  obtain ⟨a', m', c', a2', m2', c2', e', r'⟩ := (h.non f).r7
  obtain ⟨y0, y1, y2, y3, y4, y5, hz, hf⟩ := two_set r (.slice a5 A'.ws.length c5) (.slice d5 A'.ss.length e5)
  refine ⟨a5, _, c5, d5, _, e5, rfl, ⟨⟨_, _, y0, y1, y4⟩, y2, y3, y5⟩, ⟨(h.non f).fp.over hf (fun k hk => by have hk : k = b6 := hk; have := h.lo; omega), h.lo, hu.off r hf, (h.non f).wb.off r hf, ⟨_, _, _, _, _, _, rfl, hz⟩, ⟨_, _, _, _, _, _, e', hf.heap r' (fun h => by have h : b6 + 1 = b6 := h; omega)⟩⟩, hf⟩
theorem ApS.putB {w : World} {b6 : Nat} {va vb : Value} {A B B' : Wd} {wr w5 : World} {u : Value} (h : ApS w b6 va vb A B wr) (hu : WdR w5 u B') (f : Fp Non wr w5) :
    ∃ a5 m5 c5 d5 k5 e5, u = .agg #[.slice a5 m5 c5, .slice d5 k5 e5] ∧ PutF (b6 + 1) a5 m5 c5 w5 ∧ ApS w b6 va (.agg #[.slice a5 m5 c5, .slice d5 k5 e5]) A B' ((w5.setCell ⟨b6 + 1, 0, none⟩ (.slice a5 m5 c5)).setCell ⟨b6 + 1, 1, none⟩ (.slice d5 k5 e5)) ∧ Fp (fun k => k = b6 + 1) w5 ((w5.setCell ⟨b6 + 1, 0, none⟩ (.slice a5 m5 c5)).setCell ⟨b6 + 1, 1, none⟩ (.slice d5 k5 e5)) := by
  obtain ⟨a5, c5, d5, e5, rfl⟩ := hu.vals
  obtain ⟨a, m, c, a2, m2, c2, e, r⟩ := (h.non f).r6
  obtain ⟨a', m', c', a2', m2', c2', e', r'⟩ := (h.non f).r7
  obtain ⟨y0, y1, y2, y3, y4, y5, hz, hf⟩ := two_set r' (.slice a5 B'.ws.length c5) (.slice d5 B'.ss.length e5)
  refine ⟨a5, _, c5, d5, _, e5, rfl, ⟨⟨_, _, y0, y1, y4⟩, y2, y3, y5⟩, ⟨(h.non f).fp.over hf (fun k hk => by have hk : k = b6 + 1 := hk; have := h.lo; omega), h.lo, (h.non f).wa.off r' hf, hu.off r' hf, ⟨_, _, _, _, _, _, e, hf.heap r (fun h => by have h : b6 = b6 + 1 := h; omega)⟩, ⟨_, _, _, _, _, _, rfl, hz⟩⟩, hf⟩

set_option maxHeartbeats 16000000 in
theorem WatchApart_c (v1 : Value) (l : List O9) (v2 : Value) (q : List O9) (w : World) (hv1 : Ops w v1 l) (hv2 : Ops w v2 q) :
    Calls Try.prog 7 #[v1, v2] w fun e w' => e = .returned (.bool true) ∧ Fp Non w w' := by
  obtain ⟨a1, c1, rfl⟩ := hv1.shape
  obtain ⟨a2, c2, rfl⟩ := hv2.shape
  obtain ⟨n, hnn⟩ : ∃ n, n = l.length := ⟨_, rfl⟩
  obtain ⟨m, hmm⟩ : ∃ n, n = q.length := ⟨_, rfl⟩
  rw [← hnn] at hv1 ⊢
  rw [← hmm] at hv2 ⊢
  have HV1 := Lib.hid hv1
  have HV2 := Lib.hid hv2
  have HX := Lib.hid (And.intro hnn hmm)
  clear hv1 hv2 hnn hmm
  go_enter Try.func7, Try.ntmps7
  go_wp2_with fail
  refine (head_c _).mono ?_
  rintro e w1 ⟨rfl, hf⟩
  have F1 := Lib.hid hf
  clear hf
  go_wp2_with fail
  refine (Great_c (.slice a1 n c1) l _ (HV1.out.non F1.out)).mono ?_
  rintro e w2 ⟨g, rfl, hg, hf⟩
  have F2 := Lib.hid (F1.out.then hf)
  have Hg1 := Lib.hid hg
  clear hg hf F1
  cases g with
  | true =>
    clear Hg1
    go_wp2
    go_ret
    exact ⟨rfl, F2.out⟩
  | false =>
    have Hg1f := Lib.hid (Hg1.out rfl)
    have F1 := Lib.hid F2.out
    clear F2 Hg1
    go_wp2_with fail
    refine (Great_c (.slice a2 m c2) q _ (HV2.out.non F1.out)).mono ?_
    rintro e w2 ⟨g, rfl, hg, hf⟩
    have F2 := Lib.hid (F1.out.then hf)
    have Hg2 := Lib.hid hg
    clear hg hf F1
    cases g with
    | true =>
      clear Hg2
      go_wp2
      go_ret
      exact ⟨rfl, F2.out⟩
    | false =>
      have Hg2f := Lib.hid (Hg2.out rfl)
      have F1 := Lib.hid F2.out
      clear F2 Hg2
      have hn2 := Hg1f.out.1
      have hm2 := Hg2f.out.1
      rw [← HX.out.1] at hn2
      rw [← HX.out.2] at hm2
      by_cases hlong : 60 < n + m
      · have qa : ((60 : Int) < (n : Int) + (m : Int)) = True := eq_true (by omega)
        clear hlong
        go_wp2
        go_ret
        exact ⟨rfl, F1.out⟩
      have qa : ((60 : Int) < (n : Int) + (m : Int)) = False := eq_false (by omega)
      have hnm : n + m ≤ 60 := by omega
      clear hlong
      have r6 := (fp_alloc (World.alloc w2 (.cells #[.slice none 0 0, .slice none 0 0] TD)) (.cells #[.slice none 0 0, .slice none 0 0] TD)).heap (heap_alloc_new w2 (.cells #[.slice none 0 0, .slice none 0 0] TD)) (fun h => h)
      have r7 := heap_alloc_new (World.alloc w2 (.cells #[.slice none 0 0, .slice none 0 0] TD)) (.cells #[.slice none 0 0, .slice none 0 0] TD)
      have sz7 : (World.alloc w2 (.cells #[.slice none 0 0, .slice none 0 0] TD)).heap.size = w2.heap.size + 1 := by simp
      rw [sz7] at r7
      have fa := (F1.out.then (fp_alloc w2 (.cells #[.slice none 0 0, .slice none 0 0] TD))).then (fp_alloc (World.alloc w2 (.cells #[.slice none 0 0, .slice none 0 0] TD)) (.cells #[.slice none 0 0, .slice none 0 0] TD))
      have hws := F1.out.size
      have H0 := Lib.hid (show ApS w w2.heap.size (.agg #[.slice none 0 0, .slice none 0 0]) (.agg #[.slice none 0 0, .slice none 0 0]) ⟨[], []⟩ ⟨[], []⟩ _ ∧ ApN ⟨[], []⟩ ⟨[], []⟩ 0 m from ⟨⟨fa, hws, WdR.nil _, WdR.nil _, ⟨_, _, _, _, _, _, rfl, r6⟩, ⟨_, _, _, _, _, _, rfl, r7⟩⟩, ⟨ap_nil, by simp, by simp, by simp, by simp⟩⟩)
      clear r6 r7 sz7 fa hws
      go_wp2_with fail
      obtain ⟨b6, hb6⟩ : ∃ b, b = w2.heap.size := ⟨_, rfl⟩
      rw [← hb6] at H0 ⊢
      clear hb6
      generalize (World.alloc (World.alloc w2 _) _) = w3 at *
      go_loopw [8] (fun i wr => ∃ k : Nat, k ≤ n ∧ i = .int .i64 k ∧ ∃ va vb A B, Hid (ApS w b6 va vb A B wr ∧ ApN A B k m)) (fun i _ => n - (RowKit.intOf i).toNat)
      case atStart => exact ⟨0, Nat.zero_le _, rfl, _, _, _, _, H0⟩
      case round =>
        clear H0
        obtain ⟨k, hk, rfl, va, vb, A, B, hR⟩ := hrel
        rename_i wr _
        by_cases hlt : k < n
        · have hkl : k < l.length := by rw [← HX.out.1]; exact hlt
          obtain ⟨g, o, cap', e, hcell⟩ := (show Ops w (.slice a1 l.length c1) l from by rw [← HX.out.1]; exact HV1.out).at (by omega)
          injection e with e1 e2 e3
          subst e1 e3
          have hnd := (hcell k hkl).keep hR.out.1.fp (fun h => h)
          have hfx := Hg1f.out.2 l[k] (List.getElem_mem hkl)
          generalize l[k] = x at *
          obtain ⟨xw, ⟨xs, xn, xp, xd⟩, xk, xq, xu⟩ := x
          have c0 := hnd.c0; have c1 := hnd.c1; have c2 := hnd.c2; have c3 := hnd.c3; have c4 := hnd.c4; have c5 := hnd.c5; have c6 := hnd.c6; have c7 := hnd.c7
          unfold strV at c3 c6
          simp only at c0 c1 c2 c3 c4 c5 c6 c7 hfx
          have HFX := Lib.hid hfx
          have q5 : ((k : Int) < (n : Int)) = True := eq_true (by omega)
          have q6 : (k < n) = True := eq_true hlt
          have HL := Lib.hid hlt
          clear hcell hkl hlt hnd e2
          have hA64 : A.ws.length ≠ 64 := by have := hR.out.2.n1; omega
          have hB64 : B.ws.length ≠ 64 := by have := hR.out.2.n2; omega
          have hA' := ap_one hR.out.2.ap (o := ⟨xw, ⟨1, xn, xp, xd⟩, xk, xq, xu⟩) rfl hA64 hB64
          have hlA := stepM_len A ⟨xw, ⟨1, xn, xp, xd⟩, xk, xq, xu⟩ hR.out.2.ap.ra
          have hlB := stepM_len B ⟨xw, ⟨1, xn, xp, xd⟩, xk, xq, xu⟩ hR.out.2.ap.rb
          have hzA := right_sz hR.out.2.ap.ra (by have := hR.out.2.s1; omega)
          have hzB := right_sz hR.out.2.ap.rb (by have := hR.out.2.s2; omega)
          have hsa := fun v W (hv : WdR W v A) => step_c v A ⟨xw, ⟨1, xn, xp, xd⟩, xk, xq, xu⟩ W hv hzA (show xp.length ≤ 1000000 by have := hfx.1; omega) (show xq.length ≤ 1000000 by have := hfx.2; omega)
          have hsb := fun v W (hv : WdR W v B) => step_c v B ⟨xw, ⟨1, xn, xp, xd⟩, xk, xq, xu⟩ W hv hzB (show xp.length ≤ 1000000 by have := hfx.1; omega) (show xq.length ≤ 1000000 by have := hfx.2; omega)
          unfold o9V strV at hsa hsb
          simp only at hsa hsb
          have HSA := Lib.hid hsa
          have HSB := Lib.hid hsb
          obtain ⟨A', hAe⟩ : ∃ E, E = stepM A ⟨xw, ⟨1, xn, xp, xd⟩, xk, xq, xu⟩ := ⟨_, rfl⟩
          obtain ⟨B', hBe⟩ : ∃ E, E = stepM B ⟨xw, ⟨1, xn, xp, xd⟩, xk, xq, xu⟩ := ⟨_, rfl⟩
          rw [← hAe, ← hBe] at hA'
          rw [← hAe] at hlA HSA
          rw [← hBe] at hlB HSB
          have HN := Lib.hid (show Ap A' B' ∧ (A'.ws.length ≤ k + 1 ∧ A'.ss.length ≤ 64 * (k + 1)) ∧ B'.ws.length ≤ k + min k m + 1 ∧ B'.ss.length ≤ 128 * k + 64 from ⟨hA', ⟨by have := hR.out.2.n1; omega, by have := hR.out.2.s1; omega⟩, by have := hR.out.2.n2; omega, by have := hR.out.2.s2; omega⟩)
          have hfa := fp_alloc wr (.cells #[.int .i64 xw, .int .i64 1, .int .i64 xn, .string (Pm.B xp), .bool xd, .int .i64 xk, .string (Pm.B xq), .int .i64 xu] TO)
          have HB9 := Lib.hid (heap_alloc_new wr (.cells #[.int .i64 xw, .int .i64 1, .int .i64 xn, .string (Pm.B xp), .bool xd, .int .i64 xk, .string (Pm.B xq), .int .i64 xu] TO))
          have H1 := Lib.hid (hR.out.1.non hfa)
          obtain ⟨ra, rm, rc, rd, rk, re, rfl, r6⟩ := H1.out.r6
          obtain ⟨sa, sm, sc, sd, sk, se, rfl, r7⟩ := H1.out.r7
          have hb7 : b6 + 1 < wr.heap.size := by
            obtain ⟨_, _, _, _, _, _, _, r⟩ := hR.out.1.r7
            exact (Array.getElem?_eq_some_iff.1 r).1
          have HB7 := Lib.hid hb7
          obtain ⟨p0, p1⟩ := boxP2 r6
          obtain ⟨x0, x1, x2, x3, x4, x5, x6, x7⟩ := boxP8 HB9.out
          clear r6 r7 hA64 hB64 hA' hlA hlB hzA hzB hsa hsb hAe hBe hfa hb7 hfx HFX
          go_wp2_with fail
          clear p0 p1 x0 x1 x2 x3 x4 x5 x6 x7 c0 c1 c2 c3 c4 c5 c6 c7
          refine (HSA.out _ _ H1.out.wa).mono ?_
          rintro e w5 hS
          have hff := hS.fp
          obtain ⟨u, rfl, hu⟩ := hS.ex
          obtain ⟨a5, m5, c5, d5, k5, e5, rfl, ⟨⟨y0, y1, z0, z1, z2⟩, z3, z4, z5⟩, hP, hf6⟩ := H1.out.putA hu hff
          have HP := Lib.hid hP
          have h9 := hf6.heap (hff.heap HB9.out (fun h => h)) (fun e => by have e : wr.heap.size = b6 := e; have := HB7.out; omega)
          have H9 := Lib.hid h9
          obtain ⟨_, _, _, _, _, _, e7, r7⟩ := hP.r7
          injection e7 with e7
          injection e7 with e7
          simp only [List.cons.injEq, Value.slice.injEq, and_true] at e7
          obtain ⟨⟨rfl, rfl, rfl⟩, rfl, rfl, rfl⟩ := e7
          obtain ⟨v0, v1⟩ := boxP2 r7
          obtain ⟨x0, x1, x2, x3, x4, x5, x6, x7⟩ := boxP8 H9.out
          clear hS hu hff hP hf6 h9 r7 HSA
          go_wp2_with fail
          generalize (World.setCell (World.setCell w5 _ _) _ _) = w6 at *
          clear x0 x1 x2 x3 x4 x5 x6 x7 v0 v1 z0 z1 z2 z3 z4 z5
          refine (HSB.out _ _ HP.out.wb).mono ?_
          rintro e w7 hS
          have hff := hS.fp
          obtain ⟨u, rfl, hu⟩ := hS.ex
          obtain ⟨a7, m7, c7, d7, k7, e7, rfl, ⟨⟨y0, y1, z0, z1, z2⟩, z3, z4, z5⟩, hP, _⟩ := HP.out.putB hu hff
          have HP8 := Lib.hid hP
          clear hS hu hff hP HSB H9
          by_cases hkm : k < m
          · have hkl : k < q.length := by rw [← HX.out.2]; exact hkm
            obtain ⟨g2, o2, cap', e, hcell⟩ := (show Ops w (.slice a2 q.length c2) q from by rw [← HX.out.2]; exact HV2.out).at (by omega)
            injection e with e1 e2 e3
            subst e1 e3
            have hnd := (hcell k hkl).keep HP8.out.fp (fun h => h)
            have hfy := Hg2f.out.2 q[k] (List.getElem_mem hkl)
            generalize q[k] = y at *
            obtain ⟨yw, ⟨ys, yn, yp, yd⟩, yk, yq, yu⟩ := y
            have y0' := hnd.c0; have y1' := hnd.c1; have y2' := hnd.c2; have y3' := hnd.c3; have y4' := hnd.c4; have y5' := hnd.c5; have y6' := hnd.c6; have y7' := hnd.c7
            unfold strV at y3' y6'
            simp only at y0' y1' y2' y3' y4' y5' y6' y7' hfy
            have HFY := Lib.hid hfy
            have HKM := Lib.hid hkm
            have q7 : ((k : Int) < (m : Int)) = True := eq_true (by omega)
            have q8 : (k < m) = True := eq_true hkm
            clear hcell hkl hkm hnd e2 hfy
            by_cases w0 : yw = 0
            · subst w0
              have hsc := fun v W (hv : WdR W v B') => step_c v B' ⟨0, ⟨2, yn, yp, yd⟩, yk, yq, yu⟩ W hv (right_sz HN.out.1.rb (by have := HN.out.2.2.2; omega)) (show yp.length ≤ 1000000 by have := HFY.out.1; omega) (show yq.length ≤ 1000000 by have := HFY.out.2; omega)
              unfold o9V strV at hsc
              simp only at hsc
              have hA2 := ap_two HN.out.1 (o := ⟨0, ⟨2, yn, yp, yd⟩, yk, yq, yu⟩) rfl (by simp)
              have hl2 := stepM_len B' ⟨0, ⟨2, yn, yp, yd⟩, yk, yq, yu⟩ HN.out.1.rb
              obtain ⟨B2, hB2⟩ : ∃ E, E = stepM B' ⟨0, ⟨2, yn, yp, yd⟩, yk, yq, yu⟩ := ⟨_, rfl⟩
              rw [← hB2] at hA2 hl2 hsc
              have HSC := Lib.hid hsc
              have HN2 := Lib.hid (show ApN A' B2 (k + 1) m from ⟨hA2, by have := HN.out.2.1.1; omega, by have := HN.out.2.2.1; have := HKM.out; omega, by have := HN.out.2.1.2; omega, by have := HN.out.2.2.2; omega⟩)
              have hfa := fp_alloc ((w7.setCell ⟨b6 + 1, 0, none⟩ (.slice a7 m7 c7)).setCell ⟨b6 + 1, 1, none⟩ (.slice d7 k7 e7)) (.cells #[.int .i64 0, .int .i64 2, .int .i64 yn, .string (Pm.B yp), .bool yd, .int .i64 yk, .string (Pm.B yq), .int .i64 yu] TO)
              have HB10 := Lib.hid (heap_alloc_new ((w7.setCell ⟨b6 + 1, 0, none⟩ (.slice a7 m7 c7)).setCell ⟨b6 + 1, 1, none⟩ (.slice d7 k7 e7)) (.cells #[.int .i64 0, .int .i64 2, .int .i64 yn, .string (Pm.B yp), .bool yd, .int .i64 yk, .string (Pm.B yq), .int .i64 yu] TO))
              have H8 := Lib.hid (HP8.out.non hfa)
              obtain ⟨_, _, _, _, _, _, e7', r7⟩ := H8.out.r7
              injection e7' with e7'
              injection e7' with e7'
              simp only [List.cons.injEq, Value.slice.injEq, and_true] at e7'
              obtain ⟨⟨rfl, rfl, rfl⟩, rfl, rfl, rfl⟩ := e7'
              obtain ⟨v0, v1⟩ := boxP2 r7
              obtain ⟨x0, x1, x2, x3, x4, x5, x6, x7⟩ := boxP8 HB10.out
              clear r7 hfa hsc hA2 hl2 hB2
              go_wp2_with fail
              clear v0 v1 x0 x1 x2 x3 x4 x5 x6 x7 y0' y1' y2' y3' y4' y5' y6' y7' z0 z1 z2 z3 z4 z5
              refine (HSC.out _ _ H8.out.wb).mono ?_
              rintro e w9 hS
              have hff := hS.fp
              obtain ⟨u, rfl, hu⟩ := hS.ex
              obtain ⟨a9, m9, c9, d9, k9, e9, rfl, ⟨⟨y0, y1, z0, z1, z2⟩, z3, z4, z5⟩, hP, _⟩ := H8.out.putB hu hff
              have HP9 := Lib.hid hP
              have hkn := HL.out
              clear hS hu hff hP
              go_wp2
              go_roundw
              case rel => exact ⟨k + 1, by omega, by go_num, _, _, A', B2, HP9.out, HN2.out⟩
              case measure => simp [RowKit.intOf]; omega
            · by_cases w1 : yw = 1
              · subst w1
                have hsc := fun v W (hv : WdR W v B') => step_c v B' ⟨1, ⟨2, yn, yp, yd⟩, yk, yq, yu⟩ W hv (right_sz HN.out.1.rb (by have := HN.out.2.2.2; omega)) (show yp.length ≤ 1000000 by have := HFY.out.1; omega) (show yq.length ≤ 1000000 by have := HFY.out.2; omega)
                unfold o9V strV at hsc
                simp only at hsc
                have hA2 := ap_two HN.out.1 (o := ⟨1, ⟨2, yn, yp, yd⟩, yk, yq, yu⟩) rfl (by simp)
                have hl2 := stepM_len B' ⟨1, ⟨2, yn, yp, yd⟩, yk, yq, yu⟩ HN.out.1.rb
                obtain ⟨B2, hB2⟩ : ∃ E, E = stepM B' ⟨1, ⟨2, yn, yp, yd⟩, yk, yq, yu⟩ := ⟨_, rfl⟩
                rw [← hB2] at hA2 hl2 hsc
                have HSC := Lib.hid hsc
                have HN2 := Lib.hid (show ApN A' B2 (k + 1) m from ⟨hA2, by have := HN.out.2.1.1; omega, by have := HN.out.2.2.1; have := HKM.out; omega, by have := HN.out.2.1.2; omega, by have := HN.out.2.2.2; omega⟩)
                have hfa := fp_alloc ((w7.setCell ⟨b6 + 1, 0, none⟩ (.slice a7 m7 c7)).setCell ⟨b6 + 1, 1, none⟩ (.slice d7 k7 e7)) (.cells #[.int .i64 1, .int .i64 2, .int .i64 yn, .string (Pm.B yp), .bool yd, .int .i64 yk, .string (Pm.B yq), .int .i64 yu] TO)
                have HB10 := Lib.hid (heap_alloc_new ((w7.setCell ⟨b6 + 1, 0, none⟩ (.slice a7 m7 c7)).setCell ⟨b6 + 1, 1, none⟩ (.slice d7 k7 e7)) (.cells #[.int .i64 1, .int .i64 2, .int .i64 yn, .string (Pm.B yp), .bool yd, .int .i64 yk, .string (Pm.B yq), .int .i64 yu] TO))
                have H8 := Lib.hid (HP8.out.non hfa)
                obtain ⟨_, _, _, _, _, _, e7', r7⟩ := H8.out.r7
                injection e7' with e7'
                injection e7' with e7'
                simp only [List.cons.injEq, Value.slice.injEq, and_true] at e7'
                obtain ⟨⟨rfl, rfl, rfl⟩, rfl, rfl, rfl⟩ := e7'
                obtain ⟨v0, v1⟩ := boxP2 r7
                obtain ⟨x0, x1, x2, x3, x4, x5, x6, x7⟩ := boxP8 HB10.out
                clear r7 hfa hsc hA2 hl2 hB2
                go_wp2_with fail
                clear v0 v1 x0 x1 x2 x3 x4 x5 x6 x7 y0' y1' y2' y3' y4' y5' y6' y7' z0 z1 z2 z3 z4 z5
                refine (HSC.out _ _ H8.out.wb).mono ?_
                rintro e w9 hS
                have hff := hS.fp
                obtain ⟨u, rfl, hu⟩ := hS.ex
                obtain ⟨a9, m9, c9, d9, k9, e9, rfl, ⟨⟨y0, y1, z0, z1, z2⟩, z3, z4, z5⟩, hP, _⟩ := H8.out.putB hu hff
                have HP9 := Lib.hid hP
                have hkn := HL.out
                clear hS hu hff hP
                go_wp2
                go_roundw
                case rel => exact ⟨k + 1, by omega, by go_num, _, _, A', B2, HP9.out, HN2.out⟩
                case measure => simp [RowKit.intOf]; omega
              · by_cases w4 : yw = 4
                · subst w4
                  have hsc := fun v W (hv : WdR W v B') => step_c v B' ⟨4, ⟨2, yn, yp, yd⟩, yk, yq, yu⟩ W hv (right_sz HN.out.1.rb (by have := HN.out.2.2.2; omega)) (show yp.length ≤ 1000000 by have := HFY.out.1; omega) (show yq.length ≤ 1000000 by have := HFY.out.2; omega)
                  unfold o9V strV at hsc
                  simp only at hsc
                  have hA2 := ap_two HN.out.1 (o := ⟨4, ⟨2, yn, yp, yd⟩, yk, yq, yu⟩) rfl (by simp)
                  have hl2 := stepM_len B' ⟨4, ⟨2, yn, yp, yd⟩, yk, yq, yu⟩ HN.out.1.rb
                  obtain ⟨B2, hB2⟩ : ∃ E, E = stepM B' ⟨4, ⟨2, yn, yp, yd⟩, yk, yq, yu⟩ := ⟨_, rfl⟩
                  rw [← hB2] at hA2 hl2 hsc
                  have HSC := Lib.hid hsc
                  have HN2 := Lib.hid (show ApN A' B2 (k + 1) m from ⟨hA2, by have := HN.out.2.1.1; omega, by have := HN.out.2.2.1; have := HKM.out; omega, by have := HN.out.2.1.2; omega, by have := HN.out.2.2.2; omega⟩)
                  have hfa := fp_alloc ((w7.setCell ⟨b6 + 1, 0, none⟩ (.slice a7 m7 c7)).setCell ⟨b6 + 1, 1, none⟩ (.slice d7 k7 e7)) (.cells #[.int .i64 4, .int .i64 2, .int .i64 yn, .string (Pm.B yp), .bool yd, .int .i64 yk, .string (Pm.B yq), .int .i64 yu] TO)
                  have HB10 := Lib.hid (heap_alloc_new ((w7.setCell ⟨b6 + 1, 0, none⟩ (.slice a7 m7 c7)).setCell ⟨b6 + 1, 1, none⟩ (.slice d7 k7 e7)) (.cells #[.int .i64 4, .int .i64 2, .int .i64 yn, .string (Pm.B yp), .bool yd, .int .i64 yk, .string (Pm.B yq), .int .i64 yu] TO))
                  have H8 := Lib.hid (HP8.out.non hfa)
                  obtain ⟨_, _, _, _, _, _, e7', r7⟩ := H8.out.r7
                  injection e7' with e7'
                  injection e7' with e7'
                  simp only [List.cons.injEq, Value.slice.injEq, and_true] at e7'
                  obtain ⟨⟨rfl, rfl, rfl⟩, rfl, rfl, rfl⟩ := e7'
                  obtain ⟨v0, v1⟩ := boxP2 r7
                  obtain ⟨x0, x1, x2, x3, x4, x5, x6, x7⟩ := boxP8 HB10.out
                  clear r7 hfa hsc hA2 hl2 hB2
                  go_wp2_with fail
                  clear v0 v1 x0 x1 x2 x3 x4 x5 x6 x7 y0' y1' y2' y3' y4' y5' y6' y7' z0 z1 z2 z3 z4 z5
                  refine (HSC.out _ _ H8.out.wb).mono ?_
                  rintro e w9 hS
                  have hff := hS.fp
                  obtain ⟨u, rfl, hu⟩ := hS.ex
                  obtain ⟨a9, m9, c9, d9, k9, e9, rfl, ⟨⟨y0, y1, z0, z1, z2⟩, z3, z4, z5⟩, hP, _⟩ := H8.out.putB hu hff
                  have HP9 := Lib.hid hP
                  have hkn := HL.out
                  clear hS hu hff hP
                  go_wp2
                  go_roundw
                  case rel => exact ⟨k + 1, by omega, by go_num, _, _, A', B2, HP9.out, HN2.out⟩
                  case measure => simp [RowKit.intOf]; omega
                · have b0 : (yw == 0) = false := beq_eq_false_iff_ne.2 w0
                  have b1 : (yw == 1) = false := beq_eq_false_iff_ne.2 w1
                  have b4 : (yw == 4) = false := beq_eq_false_iff_ne.2 w4
                  have b0' : (yw = 0) = False := eq_false w0
                  have b1' : (yw = 1) = False := eq_false w1
                  have b4' : (yw = 4) = False := eq_false w4
                  clear w0 w1 w4
                  have HN2 := Lib.hid (show ApN A' B' (k + 1) m from ⟨HN.out.1, HN.out.2.1.1, by have := HN.out.2.2.1; omega, HN.out.2.1.2, by have := HN.out.2.2.2; omega⟩)
                  have hkn := HL.out
                  go_wp2
                  go_roundw
                  case rel => exact ⟨k + 1, by omega, by go_num, _, _, A', B', HP8.out, HN2.out⟩
                  case measure => simp [RowKit.intOf]; omega
          · have q7 : ((k : Int) < (m : Int)) = False := eq_false (by omega)
            have q8 : (k < m) = False := eq_false hkm
            clear hkm
            have HN2 := Lib.hid (show ApN A' B' (k + 1) m from ⟨HN.out.1, HN.out.2.1.1, by have := HN.out.2.2.1; omega, HN.out.2.1.2, by have := HN.out.2.2.2; omega⟩)
            have hkn := HL.out
            go_wp2
            go_roundw
            case rel => exact ⟨k + 1, by omega, by go_num, _, _, A', B', HP8.out, HN2.out⟩
            case measure => simp [RowKit.intOf]; omega
        · have hke : k = n := by omega
          subst hke
          have q5 : ((k : Int) < (k : Int)) = False := eq_false (by omega)
          have hta := Take_w va A 1 0 wr hR.out.1.wa (right_sz hR.out.2.ap.ra (by have := hR.out.2.s1; omega))
          have htb := fun W hW => Take_w vb B 1 0 W hW (right_sz hR.out.2.ap.rb (by have := hR.out.2.s2; omega))
          have hl8 := take_len hR.out.2.ap.ra 1
          have hend := ap_end hR.out.2.ap
          rw [← hend] at htb
          obtain ⟨er, her⟩ : ∃ E, E = (takeM A 1 0).2.2 := ⟨_, rfl⟩
          obtain ⟨es, hes⟩ : ∃ E, E = (takeM A 1 0).2.1 := ⟨_, rfl⟩
          obtain ⟨dA, hdA⟩ : ∃ E, E = (takeM A 1 0).1 := ⟨_, rfl⟩
          obtain ⟨dB, hdB⟩ : ∃ E, E = (takeM B 1 0).1 := ⟨_, rfl⟩
          rw [← her, ← hes, ← hdA] at hta
          rw [← her, ← hes, ← hdB] at htb
          rw [← hes] at hl8
          obtain ⟨ra, rm, rc, rd, rk, re, rfl, r6⟩ := hR.out.1.r6
          obtain ⟨sa, sm, sc, sd, sk, se, rfl, r7⟩ := hR.out.1.r7
          have HTA := Lib.hid hta
          have HTB := Lib.hid htb
          have HL8 := Lib.hid (show es.length ≤ 1000000 by omega)
          have K0 := Lib.hid (Kp.and (Kp.row r7) (Kp.and (Kp.wd hR.out.1.wb) (Kp.fp hR.out.1.fp)))
          obtain ⟨p0, p1⟩ := boxP2 r6
          clear hlt hk hta htb hl8 hend her hes hdA hdB r6 r7
          go_wp2_with fail
          refine (HTA.out).mono ?_
          rintro e w4 hR
          obtain ⟨a4, m4, c4, d4, k4, e4, l4, n4, f4, rfl, hm4, hk4, hn4, hw4, hl4⟩ := hR.bx
          have hbx := heap_alloc_new w4 (.cells #[.slice a4 m4 c4, .slice d4 k4 e4] TD)
          have HM4 := Lib.hid (And.intro hm4 (And.intro hk4 hn4))
          clear hm4 hk4 hn4
          have K4 := Lib.hid (Kp.and (Kp.row hbx) ((Kp.and (Kp.wd hw4) (Kp.and (Kp.ne hl4) (K0.out.later hR.fp))).later (fp_alloc w4 (.cells #[.slice a4 m4 c4, .slice d4 k4 e4] TD))))
          clear hR hbx hw4 hl4 K0 p0 p1 HTA
          obtain ⟨p0, p1⟩ := boxP2 K4.out.now.2.2.2.1
          go_wp2_with fail
          refine (HTB.out _ K4.out.now.2.2.2.2.1).mono ?_
          rintro e w5 hR
          obtain ⟨a5, m5, c5, d5, k5, e5, l5, n5, f5, rfl, hm5, hk5, hn5, hw5, hl5⟩ := hR.bx
          have hbx := heap_alloc_new w5 (.cells #[.slice a5 m5 c5, .slice d5 k5 e5] TD)
          have HM5 := Lib.hid (And.intro hm5 (And.intro hk5 hn5))
          clear hm5 hk5 hn5
          have K5 := Lib.hid (Kp.and (Kp.row hbx) ((Kp.and (Kp.wd hw5) (Kp.and (Kp.ne hl5) (K4.out.later hR.fp))).later (fp_alloc w5 (.cells #[.slice a5 m5 c5, .slice d5 k5 e5] TD))))
          clear hR hbx hw5 hl5 K4 p0 p1 HTB
          have HSE := Lib.hid (SameEv_t (.slice l4 n4 f4) (.slice l5 n5 f5) es _ K5.out.now.2.2.2.2.2.1 K5.out.now.2.2.1 HL8.out)
          have FF := Lib.hid K5.out.now.2.2.2.2.2.2.2.2
          have q9 : (er == er) = true := by simp
          clear K5
          go_wp2_with fail
          refine HSE.out.mono ?_
          rintro e w9 ⟨rfl, hf⟩
          have FG := Lib.hid (FF.out.then hf)
          clear hf
          go_wp2_with fail
          go_ret
          exact ⟨rfl, FG.out⟩
end Go.Proofs.Ythgcmkgfmmjmaaa
