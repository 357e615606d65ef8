/- locks.Right (gen_jr.py) -/
import Derived.Test.YtenaggleepoclaaGreatJn
import Derived.Test.YtenaggleepoclaaGreatJz
import Derived.Test.YtenaggleepoclaaGreatJb
namespace Go.Proofs.YtenaggleepoclaaGreat
set_option maxRecDepth 20000
set_option linter.unusedVariables false
set_option linter.unusedSimpArgs false
open Go.RowKit Pm


theorem boxP3 {w : World} {b : Nat} {T : TypeId} {c0 c1 c2 : Value} (h : w.heap[b]? = some (.cells #[c0, c1, c2] T (0, 0))) : w.cell? ⟨b, 0, none⟩ = some c0 ∧ w.cell? ⟨b, 1, none⟩ = some c1 ∧ w.cell? ⟨b, 2, none⟩ = some c2 :=
  ⟨by rw [cell_of_row _ _ _ _ _ _ h]; rfl, by rw [cell_of_row _ _ _ _ _ _ h]; rfl, by rw [cell_of_row _ _ _ _ _ _ h]; rfl⟩
theorem Rt_take {l : List Hl} (k : Nat) (h : RtH l) : RtH (l.take k) :=
  ⟨fun x hx => h.ok x (List.take_subset _ _ hx), h.up.sublist (List.take_sublist _ _), fun x hx y hy => h.one x (List.take_subset _ _ hx) y (List.take_subset _ _ hy)⟩
theorem Rt_next {l : List Hl} {k : Nat} (hk : k < l.length) (h : RtH (l.take k)) (ho : okH l[k] = true) (hl : ∀ h0 : 0 < k, lt (l[k - 1]'(by omega)).d l[k].d = true) (ha : ∀ y ∈ l.take k, y.t = l[k].t → y.a = l[k].a) : RtH (l.take (k + 1)) := by
  rw [List.take_succ_eq_append_getElem hk]
  refine ⟨fun x hx => ?_, ?_, fun x hx y hy e => ?_⟩
  · rcases List.mem_append.1 hx with hx | hx
    · exact h.ok x hx
    · rw [List.mem_singleton] at hx; subst hx; exact ho
  · show List.Pairwise _ _
    rw [List.pairwise_append]
    refine ⟨h.up, List.pairwise_singleton _ _, fun x hx y hy => ?_⟩
    rw [List.mem_singleton] at hy
    subst hy
    obtain ⟨j, hj, rfl⟩ := List.getElem_of_mem hx
    have hj2 : j < k := by rw [List.length_take] at hj; omega
    have hlast := hl (by omega)
    rcases Nat.lt_or_eq_of_le (show j ≤ k - 1 by omega) with c | c
    · have := List.pairwise_iff_getElem.1 h.up j (k - 1) hj (by rw [List.length_take]; omega) c
      rw [List.getElem_take (i := k - 1)] at this
      exact lt_trans this hlast
    · subst c; rw [List.getElem_take]; exact hlast
  · rcases List.mem_append.1 hx with hx | hx <;> rcases List.mem_append.1 hy with hy | hy
    · exact h.one x hx y hy e
    · rw [List.mem_singleton] at hy; subst hy; exact ha x hx e
    · rw [List.mem_singleton] at hx; subst hx; exact (ha y hy e.symm).symm
    · rw [List.mem_singleton] at hx hy; subst hx; subst hy; rfl
theorem le_bool (a b : Bs) : (Op.bytesLess a b || a == b) = !lt b a := by
  cases h : lt b a with
  | true =>
    have h1 : Op.bytesLess a b = false := lt_asymm h
    rw [h1, beq_eq_false_iff_ne.2 (fun e => by rw [e, lt_irrefl] at h; cases h)]; rfl
  | false =>
    by_cases e : a = b
    · subst e; simp
    · have h1 : Op.bytesLess a b = true := lt_of h (Ne.symm e)
      rw [h1]; rfl

set_option maxHeartbeats 8000000 in
theorem RightH_c (v : Value) (l : List Hl) (w : World) (hv : NsH w v l) (hs : HSp l) (hn : l.length ≤ 90000) :
    Calls Tryz.prog 15 #[v] w fun e w' => e = .returned (.bool (rightH l)) ∧ Fp Non w w' := by
  obtain ⟨ao, cap, rfl⟩ := hv.shape
  obtain ⟨br, hbr⟩ : ∃ b, rightH l = b := ⟨_, rfl⟩
  rw [hbr]
  have hri : br = true ↔ RtH l := by rw [← hbr]; exact right_iff l
  obtain ⟨n, hnn⟩ : ∃ n, n = l.length := ⟨_, rfl⟩
  have HX := Lib.hid (And.intro hnn (And.intro hv (And.intro hs hri)))
  rw [← hnn]
  have hnb : n ≤ 90000 := by omega
  have H0 : Hid (Fp Non w (w.alloc (.map #[] 0)) ∧ AgM (w.alloc (.map #[] 0)) w.heap.size 0 (l.take 0) ∧ RtH (l.take 0)) := ⟨fp_alloc w _, AgM.made w, ⟨fun x hx => by simp at hx, List.Pairwise.nil, fun x hx => by simp at hx⟩⟩
  clear hv hs hn hnn hri hbr
  have hmm := @run_makeMap Tryz.prog
  go_enter Tryz.func15, Tryz.ntmps15
  go_wp2_with fail
  go_loopw [11] (fun i wr => ∃ k : Nat, k ≤ n ∧ i = .int .i64 k ∧ Hid (Fp Non w wr ∧ AgM wr w.heap.size k (l.take k) ∧ RtH (l.take k))) (fun i _ => n - (RowKit.intOf i).toNat)
  case atStart => exact ⟨0, Nat.zero_le _, rfl, H0⟩
  case round =>
    clear H0
    obtain ⟨k, hk, rfl, hR⟩ := hrel
    rename_i wr _
    by_cases hlt : k < n
    · have hkl : k < l.length := by rw [← HX.out.1]; exact hlt
      obtain ⟨g, o, cap', e, _, _, _, hcell⟩ := HX.out.2.1.at (by omega)
      injection e with e1 e2 e3
      subst e1 e3
      clear e2
      have hnd := (hcell k hkl).keep hR.out.1 (fun h => h)
      have hbo : br = true → okH l[k] = true := fun h => (HX.out.2.2.2.1 h).ok _ (List.getElem_mem hkl)
      have hba : br = true → ∀ y ∈ l.take k, y.t = l[k].t → y.a = l[k].a := fun h y hy => (HX.out.2.2.2.1 h).one y (List.take_subset _ _ hy) _ (List.getElem_mem hkl)
      have hbl0 : br = true → ∀ h0 : 0 < k, lt (l[k - 1]'(by omega)).d l[k].d = true := fun h h0 => List.pairwise_iff_getElem.1 (HX.out.2.2.2.1 h).up (k - 1) k (by omega) hkl (by omega)
      have hnx0 := fun ho hl ha => Rt_next hkl hR.out.2.2 ho hl ha
      have hsl := HX.out.2.2.1 _ (List.getElem_mem hkl)
      have htk : l.take (k + 1) = l.take k ++ [l[k]] := List.take_succ_eq_append_getElem hkl
      have hpc0 : ∀ h0 : 0 < k, wr.cell? ⟨g, o + (k - 1) * 3, none⟩ = some (.string (B (l[k - 1]'(by omega)).d)) := fun h0 => ((hcell (k - 1) (by omega)).keep hR.out.1 (fun h => h)).c0
      obtain ⟨pd, hpd⟩ : ∃ pd : Bs, ∀ h0 : 0 < k, (l[k - 1]'(by omega)).d = pd := by
        by_cases h0 : 0 < k
        · exact ⟨(l[k - 1]'(by omega)).d, fun _ => rfl⟩
        · exact ⟨[], fun h => absurd h h0⟩
      have hbl : br = true → 0 < k → lt pd l[k].d = true := fun h h0 => by rw [← hpd h0]; exact hbl0 h h0
      have hnx : okH l[k] = true → (0 < k → lt pd l[k].d = true) → (∀ y ∈ l.take k, y.t = l[k].t → y.a = l[k].a) → RtH (l.take (k + 1)) := fun ho hl ha => hnx0 ho (fun h0 => by rw [hpd h0]; exact hl h0) ha
      have hpc : 0 < k → wr.cell? ⟨g, o + (k - 1) * 3, none⟩ = some (.string (B pd)) := fun h0 => by rw [← hpd h0]; exact hpc0 h0
      clear hpd hbl0 hnx0 hpc0
      obtain ⟨x, hx⟩ : ∃ x, x = l[k] := ⟨_, rfl⟩
      rw [← hx] at hnd hbo hba hbl hnx hsl htk
      clear hx hcell
      obtain ⟨xd, xt, xa⟩ := x
      have c0 := hnd.c0; have c1 := hnd.c1; have c2 := hnd.c2
      unfold strV at c0
      simp only at c0 c1 c2 hbo hba hbl hnx hsl htk
      have hrp := fun W => Right_g xd W (sz_of hsl (by omega))
      obtain ⟨b1, hb1⟩ : ∃ b, (split xd).isSome = b := ⟨_, rfl⟩
      obtain ⟨b2, hb2⟩ : ∃ b, isN xt = b := ⟨_, rfl⟩
      obtain ⟨b3, hb3⟩ : ∃ b, isN xa = b := ⟨_, rfl⟩
      have hoe : okH ⟨xd, xt, xa⟩ = (b1 && b2 && b3) := by unfold okH okP; simp only; rw [hb1, hb2, hb3]
      rw [hoe] at hbo hnx
      rw [hb1] at hrp
      have hn2 := fun W => isNum_c xt W
      rw [hb2] at hn2
      have hn3 := fun W => isNum_c xa W
      rw [hb3] at hn3
      have HRP := Lib.hid (And.intro hrp (And.intro hn2 hn3))
      have HN := Lib.hid (And.intro hbo (And.intro hba (And.intro hbl (And.intro hnx (And.intro htk hb2)))))
      have HL := Lib.hid hlt
      have f1 := fp_alloc wr (.cells #[.string (B xd), .int .i64 xt, .int .i64 xa] TH)
      have K1 := Lib.hid (Kp.and (Kp.row (heap_alloc_new wr (.cells #[.string (B xd), .int .i64 xt, .int .i64 xa] TH))) (Kp.and (Kp.fp f1) (fun W' f => (hR.out.1.then (f1.then f)))))
      have hfd := (Fp.refl Non (wr.alloc (.cells #[.string (B xd), .int .i64 xt, .int .i64 xa] TH))).drew
      have HFD := Lib.hid hfd
      have q3 : ((k : Int) < (n : Int)) = True := eq_true (by omega)
      have q4 : (k < n) = True := eq_true hlt
      clear hnd hkl hlt hbo hba hbl hnx hsl htk hrp hb1 hb2 hb3 hoe hfd f1 hn2 hn3
      cases k with
      | zero =>
        clear hpc
        simp only [Nat.zero_mul, Nat.add_zero] at c0 c1 c2
        have HD := Lib.hid (fun W (f : Fp Non (wr.alloc (.cells #[.string (B xd), .int .i64 xt, .int .i64 xa] TH)) W) => boxP3 (K1.out W f).1)
        go_wp2_with fail
        refine wp_region_held_drew (S := (fun W => W.cell? ⟨wr.heap.size, 0, none⟩ = some (.string (B xd)) ∧ W.cell? ⟨wr.heap.size, 1, none⟩ = some (.int .i64 xt) ∧ W.cell? ⟨wr.heap.size, 2, none⟩ = some (.int .i64 xa))) (by kernel_rfl) ?_ (fun hHeld => ?_)
        · exact HD.out _ HFD.out
        refine tk 0 hHeld ?_
        refine tk 1 hHeld ?_
        refine rY 2 (fun K hK => ?_)
        go_simp
        refine (HRP.out.1 _).mono ?_
        rintro e w2 ⟨rfl, hf⟩
        have F2 := Lib.hid (HFD.out.then hf.fp)
        clear hf
        go_wp2_with fail
        refine hK.out _ _ (HD.out _ F2.out) (fun hHeld => ?_)
        clear hK K
        try simp only [zP, zN, zS, zT, zU]
        cases b1 with
        | false =>
          refine tk 3 hHeld ?_
          refine tk 4 hHeld ?_
          refine sk 5 hHeld ?_
          refine sk 6 hHeld ?_
          refine sk 7 hHeld ?_
          refine sk 8 hHeld ?_
          refine tk 9 hHeld ?_
          refine tk 10 hHeld ?_
          refine sk 11 hHeld ?_
          refine sk 12 hHeld ?_
          refine sk 13 hHeld ?_
          refine sk 14 hHeld ?_
          refine tk 15 hHeld ?_
          refine tk 16 hHeld ?_
          refine sk 17 hHeld ?_
          refine sk 18 hHeld ?_
          refine sk 19 hHeld ?_
          refine sk 20 hHeld ?_
          refine sk 21 hHeld ?_
          refine sk 22 hHeld ?_
          refine sk 23 hHeld ?_
          refine sk 24 hHeld ?_
          refine sk 25 hHeld ?_
          refine sk 26 hHeld ?_
          refine sk 27 hHeld ?_
          refine sk 28 hHeld ?_
          refine sk 29 hHeld ?_
          refine tk 30 hHeld ?_
          refine yD ?_
          have hbf : br = false := by
            cases br with
            | false => rfl
            | true => have := HN.out.1 rfl; simp at this
          subst hbf
          go_wp2
          go_ret
          exact ⟨rfl, (K1.out _ F2.out).2.2⟩
        | true =>
          refine tk 3 hHeld ?_
          refine tk 4 hHeld ?_
          refine tk 5 hHeld ?_
          refine tk 6 hHeld ?_
          refine rY 7 (fun K hK => ?_)
          go_simp
          refine (HRP.out.2.1 _).mono ?_
          rintro e w3 ⟨rfl, rfl⟩
          go_wp2_with fail
          refine hK.out _ _ (HD.out _ F2.out) (fun hHeld => ?_)
          clear hK K
          try simp only [zP, zN, zS, zT, zU]
          cases b2 with
          | false =>
            refine tk 8 hHeld ?_
            refine tk 9 hHeld ?_
            refine tk 10 hHeld ?_
            refine sk 11 hHeld ?_
            refine sk 12 hHeld ?_
            refine sk 13 hHeld ?_
            refine sk 14 hHeld ?_
            refine tk 15 hHeld ?_
            refine tk 16 hHeld ?_
            refine sk 17 hHeld ?_
            refine sk 18 hHeld ?_
            refine sk 19 hHeld ?_
            refine sk 20 hHeld ?_
            refine sk 21 hHeld ?_
            refine sk 22 hHeld ?_
            refine sk 23 hHeld ?_
            refine sk 24 hHeld ?_
            refine sk 25 hHeld ?_
            refine sk 26 hHeld ?_
            refine sk 27 hHeld ?_
            refine sk 28 hHeld ?_
            refine sk 29 hHeld ?_
            refine tk 30 hHeld ?_
            refine yD ?_
            have hbf : br = false := by
              cases br with
              | false => rfl
              | true => have := HN.out.1 rfl; simp at this
            subst hbf
            go_wp2
            go_ret
            exact ⟨rfl, (K1.out _ F2.out).2.2⟩
          | true =>
            refine tk 8 hHeld ?_
            refine tk 9 hHeld ?_
            refine tk 10 hHeld ?_
            refine tk 11 hHeld ?_
            refine tk 12 hHeld ?_
            refine rY 13 (fun K hK => ?_)
            go_simp
            refine (HRP.out.2.2 _).mono ?_
            rintro e w3 ⟨rfl, rfl⟩
            go_wp2_with fail
            refine hK.out _ _ (HD.out _ F2.out) (fun hHeld => ?_)
            clear hK K
            try simp only [zP, zN, zS, zT, zU]
            cases b3 with
            | false =>
              refine tk 14 hHeld ?_
              refine tk 15 hHeld ?_
              refine tk 16 hHeld ?_
              refine sk 17 hHeld ?_
              refine sk 18 hHeld ?_
              refine sk 19 hHeld ?_
              refine sk 20 hHeld ?_
              refine sk 21 hHeld ?_
              refine sk 22 hHeld ?_
              refine sk 23 hHeld ?_
              refine sk 24 hHeld ?_
              refine sk 25 hHeld ?_
              refine sk 26 hHeld ?_
              refine sk 27 hHeld ?_
              refine sk 28 hHeld ?_
              refine sk 29 hHeld ?_
              refine tk 30 hHeld ?_
              refine yD ?_
              have hbf : br = false := by
                cases br with
                | false => rfl
                | true => have := HN.out.1 rfl; simp at this
              subst hbf
              go_wp2
              go_ret
              exact ⟨rfl, (K1.out _ F2.out).2.2⟩
            | true =>
              refine tk 14 hHeld ?_
              refine tk 15 hHeld ?_
              refine tk 16 hHeld ?_
              refine tk 17 hHeld ?_
              refine tk 18 hHeld ?_
              refine tk 19 hHeld ?_
              refine sk 20 hHeld ?_
              refine sk 21 hHeld ?_
              refine sk 22 hHeld ?_
              refine sk 23 hHeld ?_
              refine sk 24 hHeld ?_
              refine sk 25 hHeld ?_
              refine sk 26 hHeld ?_
              refine sk 27 hHeld ?_
              refine sk 28 hHeld ?_
              refine tk 29 hHeld ?_
              refine tk 30 hHeld ?_
              refine yD ?_
              have hls : (0 < 0 → lt pd xd = true) := fun h => absurd h (Nat.lt_irrefl 0)
              have HLS := Lib.hid hls
              have hF := F2.out
              obtain ⟨p0, p1, p2⟩ := boxP3 (K1.out _ hF).1
              have hag := (hR.out.2.1.keep (S := Non) ((fp_alloc wr (.cells #[.string (B xd), .int .i64 xt, .int .i64 xa] TH)).then hF) (fun h => h))
              have hlk := hag.look xt HN.out.2.2.2.2.2
              obtain ⟨lv, lb, hlr, hli, hla⟩ := hlk
              have HLR := Lib.hid (And.intro hlr (And.intro hli (And.intro hla hag)))
              clear hls hlr hli hla hag hF
              cases lb with
              | true =>
                by_cases hae : lv = xa
                · have q20 : (lv != xa) = false := by simp [hae]
                  have hcon : ∀ y ∈ l.take 0, y.t = xt → y.a = xa := fun y hy e => by rw [← HLR.out.2.2.1 y hy e]; exact hae
                  have hup := HLR.out.2.2.2.upd ⟨xd, xt, xa⟩ HN.out.2.2.2.2.2 (by have := HL.out; omega) hcon
                  have HU := Lib.hid (And.intro hup hcon)
                  clear hup hcon hae
                  go_wp2_with (first
                  | (at_lookup; refine wpList_lookup_run rfl TMA _ _ _ rfl _ _ _ rfl rfl HLR.out.1 ?_)
                  | (refine wpList_upd rfl TMA _ _ _ rfl _ _ _ rfl rfl rfl _ HU.out.1 ?_))
                  intro w9 hU
                  have hM : Hid (Fp Non w w9 ∧ AgM w9 w.heap.size (0 + 1) (l.take (0 + 1)) ∧ RtH (l.take (0 + 1))) := ⟨((K1.out _ F2.out).2.2).trans hU.fp (fun j hj => .inr (by rw [hj]; exact Nat.le_refl _)), by rw [HN.out.2.2.2.2.1]; exact hU.mp, HN.out.2.2.2.1 rfl HLS.out HU.out.2⟩
                  have hkn := HL.out
                  clear hU
                  go_wp2
                  go_roundw
                  case rel => exact ⟨0 + 1, by omega, by go_num, hM⟩
                  case measure => simp [RowKit.intOf]; omega
                · have q20 : (lv != xa) = true := by simp [hae]
                  have hbf : br = false := by
                    cases br with
                    | false => rfl
                    | true =>
                      obtain ⟨y, hy, e⟩ := HLR.out.2.1.1 rfl
                      exact absurd ((HLR.out.2.2.1 y hy e).trans (HN.out.2.1 rfl y hy e)) hae
                  subst hbf
                  clear hae
                  go_wp2_with (at_lookup; refine wpList_lookup_run rfl TMA _ _ _ rfl _ _ _ rfl rfl HLR.out.1 ?_)
                  go_ret
                  exact ⟨rfl, (K1.out _ F2.out).2.2⟩
              | false =>
                have hcon : ∀ y ∈ l.take 0, y.t = xt → y.a = xa := fun y hy e => by have := HLR.out.2.1.2 ⟨y, hy, e⟩; cases this
                have hup := HLR.out.2.2.2.upd ⟨xd, xt, xa⟩ HN.out.2.2.2.2.2 (by have := HL.out; omega) hcon
                have HU := Lib.hid (And.intro hup hcon)
                clear hup hcon
                go_wp2_with (first
                  | (at_lookup; refine wpList_lookup_run rfl TMA _ _ _ rfl _ _ _ rfl rfl HLR.out.1 ?_)
                  | (refine wpList_upd rfl TMA _ _ _ rfl _ _ _ rfl rfl rfl _ HU.out.1 ?_))
                intro w9 hU
                have hM : Hid (Fp Non w w9 ∧ AgM w9 w.heap.size (0 + 1) (l.take (0 + 1)) ∧ RtH (l.take (0 + 1))) := ⟨((K1.out _ F2.out).2.2).trans hU.fp (fun j hj => .inr (by rw [hj]; exact Nat.le_refl _)), by rw [HN.out.2.2.2.2.1]; exact hU.mp, HN.out.2.2.2.1 rfl HLS.out HU.out.2⟩
                have hkn := HL.out
                clear hU
                go_wp2
                go_roundw
                case rel => exact ⟨0 + 1, by omega, by go_num, hM⟩
                case measure => simp [RowKit.intOf]; omega
      | succ k =>
        have hpc := hpc (Nat.succ_pos k)
        rw [Nat.add_sub_cancel] at hpc
        have HD := Lib.hid (fun W (f : Fp Non (wr.alloc (.cells #[.string (B xd), .int .i64 xt, .int .i64 xa] TH)) W) => And.intro (boxP3 (K1.out W f).1).1 (And.intro (boxP3 (K1.out W f).1).2.1 (And.intro (boxP3 (K1.out W f).1).2.2 (((fp_alloc wr _).then f).cell hpc (fun h => h)))))
        have q7 : (k < n) = True := eq_true (by have := HL.out; omega)
        have q8 : ((k : Int) < (n : Int)) = True := eq_true (by have := HL.out; omega)
        have q9 : ((0 : Int) < (k : Int) + 1) = True := eq_true (by omega)
        have q10 : ((k : Int) + 1 < (n : Int)) = True := eq_true (by have := HL.out; omega)
        have q11 : IntKind.i64.wrap (k : Int) = (k : Int) := by rw [IntKind.wrap_i64]; have := HL.out; omega
        have q12 : ((0 : Int) ≤ (k : Int)) = True := eq_true (by omega)
        clear hpc
        go_wp2_with fail
        refine wp_region_held_drew (S := (fun W => W.cell? ⟨wr.heap.size, 0, none⟩ = some (.string (B xd)) ∧ W.cell? ⟨wr.heap.size, 1, none⟩ = some (.int .i64 xt) ∧ W.cell? ⟨wr.heap.size, 2, none⟩ = some (.int .i64 xa) ∧ W.cell? ⟨g, o + k * 3, none⟩ = some (.string (B pd)))) (by kernel_rfl) ?_ (fun hHeld => ?_)
        · exact HD.out _ HFD.out
        refine tk 0 hHeld ?_
        refine tk 1 hHeld ?_
        refine rY 2 (fun K hK => ?_)
        go_simp
        refine (HRP.out.1 _).mono ?_
        rintro e w2 ⟨rfl, hf⟩
        have F2 := Lib.hid (HFD.out.then hf.fp)
        clear hf
        go_wp2_with fail
        refine hK.out _ _ (HD.out _ F2.out) (fun hHeld => ?_)
        clear hK K
        try simp only [zP, zN, zS, zT, zU]
        cases b1 with
        | false =>
          refine tk 3 hHeld ?_
          refine tk 4 hHeld ?_
          refine sk 5 hHeld ?_
          refine sk 6 hHeld ?_
          refine sk 7 hHeld ?_
          refine sk 8 hHeld ?_
          refine tk 9 hHeld ?_
          refine tk 10 hHeld ?_
          refine sk 11 hHeld ?_
          refine sk 12 hHeld ?_
          refine sk 13 hHeld ?_
          refine sk 14 hHeld ?_
          refine tk 15 hHeld ?_
          refine tk 16 hHeld ?_
          refine sk 17 hHeld ?_
          refine sk 18 hHeld ?_
          refine sk 19 hHeld ?_
          refine sk 20 hHeld ?_
          refine sk 21 hHeld ?_
          refine sk 22 hHeld ?_
          refine sk 23 hHeld ?_
          refine sk 24 hHeld ?_
          refine sk 25 hHeld ?_
          refine sk 26 hHeld ?_
          refine sk 27 hHeld ?_
          refine sk 28 hHeld ?_
          refine sk 29 hHeld ?_
          refine tk 30 hHeld ?_
          refine yD ?_
          have hbf : br = false := by
            cases br with
            | false => rfl
            | true => have := HN.out.1 rfl; simp at this
          subst hbf
          go_wp2
          go_ret
          exact ⟨rfl, (K1.out _ F2.out).2.2⟩
        | true =>
          refine tk 3 hHeld ?_
          refine tk 4 hHeld ?_
          refine tk 5 hHeld ?_
          refine tk 6 hHeld ?_
          refine rY 7 (fun K hK => ?_)
          go_simp
          refine (HRP.out.2.1 _).mono ?_
          rintro e w3 ⟨rfl, rfl⟩
          go_wp2_with fail
          refine hK.out _ _ (HD.out _ F2.out) (fun hHeld => ?_)
          clear hK K
          try simp only [zP, zN, zS, zT, zU]
          cases b2 with
          | false =>
            refine tk 8 hHeld ?_
            refine tk 9 hHeld ?_
            refine tk 10 hHeld ?_
            refine sk 11 hHeld ?_
            refine sk 12 hHeld ?_
            refine sk 13 hHeld ?_
            refine sk 14 hHeld ?_
            refine tk 15 hHeld ?_
            refine tk 16 hHeld ?_
            refine sk 17 hHeld ?_
            refine sk 18 hHeld ?_
            refine sk 19 hHeld ?_
            refine sk 20 hHeld ?_
            refine sk 21 hHeld ?_
            refine sk 22 hHeld ?_
            refine sk 23 hHeld ?_
            refine sk 24 hHeld ?_
            refine sk 25 hHeld ?_
            refine sk 26 hHeld ?_
            refine sk 27 hHeld ?_
            refine sk 28 hHeld ?_
            refine sk 29 hHeld ?_
            refine tk 30 hHeld ?_
            refine yD ?_
            have hbf : br = false := by
              cases br with
              | false => rfl
              | true => have := HN.out.1 rfl; simp at this
            subst hbf
            go_wp2
            go_ret
            exact ⟨rfl, (K1.out _ F2.out).2.2⟩
          | true =>
            refine tk 8 hHeld ?_
            refine tk 9 hHeld ?_
            refine tk 10 hHeld ?_
            refine tk 11 hHeld ?_
            refine tk 12 hHeld ?_
            refine rY 13 (fun K hK => ?_)
            go_simp
            refine (HRP.out.2.2 _).mono ?_
            rintro e w3 ⟨rfl, rfl⟩
            go_wp2_with fail
            refine hK.out _ _ (HD.out _ F2.out) (fun hHeld => ?_)
            clear hK K
            try simp only [zP, zN, zS, zT, zU]
            cases b3 with
            | false =>
              refine tk 14 hHeld ?_
              refine tk 15 hHeld ?_
              refine tk 16 hHeld ?_
              refine sk 17 hHeld ?_
              refine sk 18 hHeld ?_
              refine sk 19 hHeld ?_
              refine sk 20 hHeld ?_
              refine sk 21 hHeld ?_
              refine sk 22 hHeld ?_
              refine sk 23 hHeld ?_
              refine sk 24 hHeld ?_
              refine sk 25 hHeld ?_
              refine sk 26 hHeld ?_
              refine sk 27 hHeld ?_
              refine sk 28 hHeld ?_
              refine sk 29 hHeld ?_
              refine tk 30 hHeld ?_
              refine yD ?_
              have hbf : br = false := by
                cases br with
                | false => rfl
                | true => have := HN.out.1 rfl; simp at this
              subst hbf
              go_wp2
              go_ret
              exact ⟨rfl, (K1.out _ F2.out).2.2⟩
            | true =>
              refine tk 14 hHeld ?_
              refine tk 15 hHeld ?_
              refine tk 16 hHeld ?_
              refine tk 17 hHeld ?_
              refine tk 18 hHeld ?_
              refine tk 19 hHeld ?_
              refine tk 20 hHeld ?_
              refine tk 21 hHeld ?_
              refine tk 22 hHeld ?_
              refine tk 23 hHeld ?_
              refine tk 24 hHeld ?_
              refine tk 25 hHeld ?_
              refine tk 26 hHeld ?_
              refine tk 27 hHeld ?_
              refine tk 28 hHeld ?_
              refine tk 29 hHeld ?_
              refine tk 30 hHeld ?_
              refine yD ?_
              rw [le_bool]
              cases hlq : lt pd xd with
              | true =>
                have hls : (0 < k + 1 → lt pd xd = true) := fun _ => hlq
                have HLS := Lib.hid hls
                have hF := F2.out
                obtain ⟨p0, p1, p2⟩ := boxP3 (K1.out _ hF).1
                have hag := (hR.out.2.1.keep (S := Non) ((fp_alloc wr (.cells #[.string (B xd), .int .i64 xt, .int .i64 xa] TH)).then hF) (fun h => h))
                have hlk := hag.look xt HN.out.2.2.2.2.2
                obtain ⟨lv, lb, hlr, hli, hla⟩ := hlk
                have HLR := Lib.hid (And.intro hlr (And.intro hli (And.intro hla hag)))
                clear hls hlr hli hla hag hF
                cases lb with
                | true =>
                  by_cases hae : lv = xa
                  · have q20 : (lv != xa) = false := by simp [hae]
                    have hcon : ∀ y ∈ l.take (k + 1), y.t = xt → y.a = xa := fun y hy e => by rw [← HLR.out.2.2.1 y hy e]; exact hae
                    have hup := HLR.out.2.2.2.upd ⟨xd, xt, xa⟩ HN.out.2.2.2.2.2 (by have := HL.out; omega) hcon
                    have HU := Lib.hid (And.intro hup hcon)
                    clear hup hcon hae
                    go_wp2_with (first
                    | (at_lookup; refine wpList_lookup_run rfl TMA _ _ _ rfl _ _ _ rfl rfl HLR.out.1 ?_)
                    | (refine wpList_upd rfl TMA _ _ _ rfl _ _ _ rfl rfl rfl _ HU.out.1 ?_))
                    intro w9 hU
                    have hM : Hid (Fp Non w w9 ∧ AgM w9 w.heap.size ((k + 1) + 1) (l.take ((k + 1) + 1)) ∧ RtH (l.take ((k + 1) + 1))) := ⟨((K1.out _ F2.out).2.2).trans hU.fp (fun j hj => .inr (by rw [hj]; exact Nat.le_refl _)), by rw [HN.out.2.2.2.2.1]; exact hU.mp, HN.out.2.2.2.1 rfl HLS.out HU.out.2⟩
                    have hkn := HL.out
                    clear hU
                    go_wp2
                    go_roundw
                    case rel => exact ⟨(k + 1) + 1, by omega, by go_num, hM⟩
                    case measure => simp [RowKit.intOf]; omega
                  · have q20 : (lv != xa) = true := by simp [hae]
                    have hbf : br = false := by
                      cases br with
                      | false => rfl
                      | true =>
                        obtain ⟨y, hy, e⟩ := HLR.out.2.1.1 rfl
                        exact absurd ((HLR.out.2.2.1 y hy e).trans (HN.out.2.1 rfl y hy e)) hae
                    subst hbf
                    clear hae
                    go_wp2_with (at_lookup; refine wpList_lookup_run rfl TMA _ _ _ rfl _ _ _ rfl rfl HLR.out.1 ?_)
                    go_ret
                    exact ⟨rfl, (K1.out _ F2.out).2.2⟩
                | false =>
                  have hcon : ∀ y ∈ l.take (k + 1), y.t = xt → y.a = xa := fun y hy e => by have := HLR.out.2.1.2 ⟨y, hy, e⟩; cases this
                  have hup := HLR.out.2.2.2.upd ⟨xd, xt, xa⟩ HN.out.2.2.2.2.2 (by have := HL.out; omega) hcon
                  have HU := Lib.hid (And.intro hup hcon)
                  clear hup hcon
                  go_wp2_with (first
                    | (at_lookup; refine wpList_lookup_run rfl TMA _ _ _ rfl _ _ _ rfl rfl HLR.out.1 ?_)
                    | (refine wpList_upd rfl TMA _ _ _ rfl _ _ _ rfl rfl rfl _ HU.out.1 ?_))
                  intro w9 hU
                  have hM : Hid (Fp Non w w9 ∧ AgM w9 w.heap.size ((k + 1) + 1) (l.take ((k + 1) + 1)) ∧ RtH (l.take ((k + 1) + 1))) := ⟨((K1.out _ F2.out).2.2).trans hU.fp (fun j hj => .inr (by rw [hj]; exact Nat.le_refl _)), by rw [HN.out.2.2.2.2.1]; exact hU.mp, HN.out.2.2.2.1 rfl HLS.out HU.out.2⟩
                  have hkn := HL.out
                  clear hU
                  go_wp2
                  go_roundw
                  case rel => exact ⟨(k + 1) + 1, by omega, by go_num, hM⟩
                  case measure => simp [RowKit.intOf]; omega
              | false =>
                have hbf : br = false := by
                  cases br with
                  | false => rfl
                  | true => have := HN.out.2.2.1 rfl (Nat.succ_pos k); rw [hlq] at this; cases this
                subst hbf
                go_wp2
                go_ret
                exact ⟨rfl, (K1.out _ F2.out).2.2⟩
    · have hke : k = n := by omega
      subst hke
      have q3 : ((k : Int) < (k : Int)) = False := eq_false (by omega)
      have hrt := hR.out.2.2
      rw [HX.out.1, List.take_length] at hrt
      have hbt : br = true := HX.out.2.2.2.2 hrt
      subst hbt
      clear hlt hk hrt
      go_wp2
      go_ret
      exact ⟨rfl, hR.out.1⟩
end Go.Proofs.YtenaggleepoclaaGreat
