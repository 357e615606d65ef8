/- The document's number, Right, Same (gen_jx.py) -/
import Derived.Test.YtenaggleepoclaaGreatJk
import Derived.Test.YtenaggleepoclaaGreatRd
namespace Go.Proofs.YtenaggleepoclaaGreat
set_option maxRecDepth 20000
set_option linter.unusedVariables false
set_option linter.unusedSimpArgs false
open Go.RowKit Pm


set_option maxHeartbeats 400000 in
theorem number_c (n : Int) (w : World) : Calls Tryz.prog 32 #[.int .i64 n] w fun e w' => e = .returned (.bool (isN n)) ∧ w' = w := by
  go_enter Tryz.func32, Tryz.ntmps32
  go_wp2
  all_goals (go_ret; refine ⟨ret_bool ?_, rfl⟩; unfold isN mxN; rw [Bool.eq_iff_iff]; simp; omega)

set_option maxHeartbeats 8000000 in
theorem rRight_c (v : Value) (l : List Hl) (w : World) (hv : NsH w v l) (hs : HSp l) (hn : l.length ≤ 90000) :
    Calls Tryz.prog 16 #[v] w fun e w' => e = .returned (.bool (rightH l)) ∧ Fp Non w w' := by
  obtain ⟨ao, cap, rfl⟩ := hv.shape
  obtain ⟨br, hbr⟩ : ∃ b, rightH l = b := ⟨_, rfl⟩
  rw [hbr]
  have hri : br = true ↔ RtH l := by rw [← hbr]; exact right_iff l
  obtain ⟨n, hnn⟩ : ∃ n, n = l.length := ⟨_, rfl⟩
  have HX := Lib.hid (And.intro hnn (And.intro hv (And.intro hs hri)))
  rw [← hnn]
  have hnb : n ≤ 90000 := by omega
  have H0 : Hid (Fp Non w w ∧ RtH (l.take 0)) := ⟨Fp.refl _ _, ⟨fun x hx => by simp at hx, List.Pairwise.nil, fun x hx => by simp at hx⟩⟩
  clear hv hs hn hnn hri hbr
  go_enter Tryz.func16, Tryz.ntmps16
  go_wp2_with fail
  go_loopw [3] (fun i wr => ∃ k : Nat, k ≤ n ∧ i = .int .i64 k ∧ Hid (Fp Non w wr ∧ RtH (l.take k))) (fun i _ => n - (RowKit.intOf i).toNat)
  case atStart => exact ⟨0, Nat.zero_le _, rfl, H0⟩
  case round =>
    clear H0
    obtain ⟨k, hk, rfl, hR⟩ := hrel
    rename_i wr _
    by_cases hlt : k < n
    · have hkl : k < l.length := by rw [← HX.out.1]; exact hlt
      obtain ⟨g, o, cap', e, _, _, _, hcell⟩ := HX.out.2.1.at (by omega)
      injection e with e1 e2 e3
      subst e1 e3
      clear e2
      have hnd := (hcell k hkl).keep hR.out.1 (fun h => h)
      have hbo : br = true → okH l[k] = true := fun h => (HX.out.2.2.2.1 h).ok _ (List.getElem_mem hkl)
      have hba : br = true → ∀ y ∈ l.take k, y.t = l[k].t → y.a = l[k].a := fun h y hy => (HX.out.2.2.2.1 h).one y (List.take_subset _ _ hy) _ (List.getElem_mem hkl)
      have hbl0 : br = true → ∀ h0 : 0 < k, lt (l[k - 1]'(by omega)).d l[k].d = true := fun h h0 => List.pairwise_iff_getElem.1 (HX.out.2.2.2.1 h).up (k - 1) k (by omega) hkl (by omega)
      have hnx0 := fun ho hl ha => Rt_next hkl hR.out.2 ho hl ha
      have hsl := HX.out.2.2.1 _ (List.getElem_mem hkl)
      have hpc0 : ∀ h0 : 0 < k, wr.cell? ⟨g, o + (k - 1) * 3, none⟩ = some (.string (B (l[k - 1]'(by omega)).d)) := fun h0 => ((hcell (k - 1) (by omega)).keep hR.out.1 (fun h => h)).c0
      obtain ⟨pd, hpd⟩ : ∃ pd : Bs, ∀ h0 : 0 < k, (l[k - 1]'(by omega)).d = pd := by
        by_cases h0 : 0 < k
        · exact ⟨(l[k - 1]'(by omega)).d, fun _ => rfl⟩
        · exact ⟨[], fun h => absurd h h0⟩
      have hbl : br = true → 0 < k → lt pd l[k].d = true := fun h h0 => by rw [← hpd h0]; exact hbl0 h h0
      have hnx : okH l[k] = true → (0 < k → lt pd l[k].d = true) → (∀ y ∈ l.take k, y.t = l[k].t → y.a = l[k].a) → RtH (l.take (k + 1)) := fun ho hl ha => hnx0 ho (fun h0 => by rw [hpd h0]; exact hl h0) ha
      have hpc : 0 < k → wr.cell? ⟨g, o + (k - 1) * 3, none⟩ = some (.string (B pd)) := fun h0 => by rw [← hpd h0]; exact hpc0 h0
      have hrow : ∀ j (hj : j < l.length), ∀ W, Fp Non w W → NdAtH W g (o + j * 3) l[j] := fun j hj W f => (hcell j hj).keep f (fun h => h)
      clear hpd hbl0 hnx0 hpc0
      obtain ⟨x, hx⟩ : ∃ x, x = l[k] := ⟨_, rfl⟩
      have HXE : Hid (l[k] = x) := Lib.hid hx.symm
      rw [← hx] at hnd hbo hba hbl hnx hsl
      clear hx hcell
      obtain ⟨xd, xt, xa⟩ := x
      have c0 := hnd.c0; have c1 := hnd.c1; have c2 := hnd.c2
      unfold strV at c0
      simp only at c0 c1 c2 hbo hba hbl hnx hsl
      have hrp := fun W => rRight_g xd W (sz_of hsl (by omega))
      obtain ⟨b1, hb1⟩ : ∃ b, (split xd).isSome = b := ⟨_, rfl⟩
      obtain ⟨b2, hb2⟩ : ∃ b, isN xt = b := ⟨_, rfl⟩
      obtain ⟨b3, hb3⟩ : ∃ b, isN xa = b := ⟨_, rfl⟩
      have hoe : okH ⟨xd, xt, xa⟩ = (b1 && b2 && b3) := by unfold okH okP; simp only; rw [hb1, hb2, hb3]
      rw [hoe] at hbo hnx
      rw [hb1] at hrp
      have hn2 := fun W => number_c xt W
      rw [hb2] at hn2
      have hn3 := fun W => number_c xa W
      rw [hb3] at hn3
      have HRP := Lib.hid (And.intro hrp (And.intro hn2 hn3))
      have HN := Lib.hid (And.intro hbo (And.intro hba (And.intro hbl (And.intro hnx hrow))))
      have HL := Lib.hid hlt
      have hfd := (Fp.refl Non wr).drew
      have HFD := Lib.hid hfd
      have HCC := Lib.hid (And.intro c0 (And.intro c1 c2))
      have q3 : ((k : Int) < (n : Int)) = True := eq_true (by omega)
      have q4 : (k < n) = True := eq_true hlt
      clear hnd hlt hbo hba hbl hnx hsl hrp hb1 hb2 hb3 hoe hfd hn2 hn3 hrow
      cases k with
      | zero =>
        clear hpc
        simp only [Nat.zero_mul, Nat.add_zero] at c0 c1 c2 HCC
        have HD := Lib.hid (fun W (f : Fp Non wr W) => And.intro (f.cell HCC.out.1 (fun h => h)) (And.intro (f.cell HCC.out.2.1 (fun h => h)) (f.cell HCC.out.2.2 (fun h => h))))
        go_wp2_with fail
        refine wp_region_held_drew (S := (fun W => W.cell? ⟨g, o, none⟩ = some (.string (B xd)) ∧ W.cell? ⟨g, o + 1, none⟩ = some (.int .i64 xt) ∧ W.cell? ⟨g, o + 2, none⟩ = some (.int .i64 xa))) (by kernel_rfl) ?_ (fun hHeld => ?_)
        · exact HD.out _ HFD.out
        refine tk 0 hHeld ?_
        refine tk 1 hHeld ?_
        refine tk 2 hHeld ?_
        refine tk 3 hHeld ?_
        refine tk 4 hHeld ?_
        refine rY 5 (fun K hK => ?_)
        go_simp
        refine (HRP.out.1 _).mono ?_
        rintro e w2 ⟨rfl, hf⟩
        have F2 := Lib.hid (HFD.out.then hf.fp)
        clear hf
        go_wp2_with fail
        refine hK.out _ _ (HD.out _ F2.out) (fun hHeld => ?_)
        clear hK K
        try simp only [zP, zN, zS, zT, zU]
        cases b1 with
        | false =>
          refine tk 6 hHeld ?_
          refine tk 7 hHeld ?_
          refine sk 8 hHeld ?_
          refine sk 9 hHeld ?_
          refine sk 10 hHeld ?_
          refine sk 11 hHeld ?_
          refine sk 12 hHeld ?_
          refine sk 13 hHeld ?_
          refine sk 14 hHeld ?_
          refine tk 15 hHeld ?_
          refine tk 16 hHeld ?_
          refine sk 17 hHeld ?_
          refine sk 18 hHeld ?_
          refine sk 19 hHeld ?_
          refine sk 20 hHeld ?_
          refine sk 21 hHeld ?_
          refine sk 22 hHeld ?_
          refine sk 23 hHeld ?_
          refine tk 24 hHeld ?_
          refine tk 25 hHeld ?_
          refine sk 26 hHeld ?_
          refine sk 27 hHeld ?_
          refine sk 28 hHeld ?_
          refine sk 29 hHeld ?_
          refine sk 30 hHeld ?_
          refine sk 31 hHeld ?_
          refine sk 32 hHeld ?_
          refine sk 33 hHeld ?_
          refine sk 34 hHeld ?_
          refine sk 35 hHeld ?_
          refine sk 36 hHeld ?_
          refine sk 37 hHeld ?_
          refine sk 38 hHeld ?_
          refine sk 39 hHeld ?_
          refine sk 40 hHeld ?_
          refine sk 41 hHeld ?_
          refine tk 42 hHeld ?_
          refine yD ?_
          have hbf : br = false := by
            cases br with
            | false => rfl
            | true => have := HN.out.1 rfl; simp at this
          subst hbf
          go_wp2
          go_ret
          exact ⟨rfl, hR.out.1.then F2.out⟩
        | true =>
          refine tk 6 hHeld ?_
          refine tk 7 hHeld ?_
          refine tk 8 hHeld ?_
          refine tk 9 hHeld ?_
          refine tk 10 hHeld ?_
          refine tk 11 hHeld ?_
          refine tk 12 hHeld ?_
          refine rY 13 (fun K hK => ?_)
          go_simp
          refine (HRP.out.2.1 _).mono ?_
          rintro e w3 ⟨rfl, rfl⟩
          go_wp2_with fail
          refine hK.out _ _ (HD.out _ F2.out) (fun hHeld => ?_)
          clear hK K
          try simp only [zP, zN, zS, zT, zU]
          cases b2 with
          | false =>
            refine tk 14 hHeld ?_
            refine tk 15 hHeld ?_
            refine tk 16 hHeld ?_
            refine sk 17 hHeld ?_
            refine sk 18 hHeld ?_
            refine sk 19 hHeld ?_
            refine sk 20 hHeld ?_
            refine sk 21 hHeld ?_
            refine sk 22 hHeld ?_
            refine sk 23 hHeld ?_
            refine tk 24 hHeld ?_
            refine tk 25 hHeld ?_
            refine sk 26 hHeld ?_
            refine sk 27 hHeld ?_
            refine sk 28 hHeld ?_
            refine sk 29 hHeld ?_
            refine sk 30 hHeld ?_
            refine sk 31 hHeld ?_
            refine sk 32 hHeld ?_
            refine sk 33 hHeld ?_
            refine sk 34 hHeld ?_
            refine sk 35 hHeld ?_
            refine sk 36 hHeld ?_
            refine sk 37 hHeld ?_
            refine sk 38 hHeld ?_
            refine sk 39 hHeld ?_
            refine sk 40 hHeld ?_
            refine sk 41 hHeld ?_
            refine tk 42 hHeld ?_
            refine yD ?_
            have hbf : br = false := by
              cases br with
              | false => rfl
              | true => have := HN.out.1 rfl; simp at this
            subst hbf
            go_wp2
            go_ret
            exact ⟨rfl, hR.out.1.then F2.out⟩
          | true =>
            refine tk 14 hHeld ?_
            refine tk 15 hHeld ?_
            refine tk 16 hHeld ?_
            refine tk 17 hHeld ?_
            refine tk 18 hHeld ?_
            refine tk 19 hHeld ?_
            refine tk 20 hHeld ?_
            refine tk 21 hHeld ?_
            refine rY 22 (fun K hK => ?_)
            go_simp
            refine (HRP.out.2.2 _).mono ?_
            rintro e w3 ⟨rfl, rfl⟩
            go_wp2_with fail
            refine hK.out _ _ (HD.out _ F2.out) (fun hHeld => ?_)
            clear hK K
            try simp only [zP, zN, zS, zT, zU]
            cases b3 with
            | false =>
              refine tk 23 hHeld ?_
              refine tk 24 hHeld ?_
              refine tk 25 hHeld ?_
              refine sk 26 hHeld ?_
              refine sk 27 hHeld ?_
              refine sk 28 hHeld ?_
              refine sk 29 hHeld ?_
              refine sk 30 hHeld ?_
              refine sk 31 hHeld ?_
              refine sk 32 hHeld ?_
              refine sk 33 hHeld ?_
              refine sk 34 hHeld ?_
              refine sk 35 hHeld ?_
              refine sk 36 hHeld ?_
              refine sk 37 hHeld ?_
              refine sk 38 hHeld ?_
              refine sk 39 hHeld ?_
              refine sk 40 hHeld ?_
              refine sk 41 hHeld ?_
              refine tk 42 hHeld ?_
              refine yD ?_
              have hbf : br = false := by
                cases br with
                | false => rfl
                | true => have := HN.out.1 rfl; simp at this
              subst hbf
              go_wp2
              go_ret
              exact ⟨rfl, hR.out.1.then F2.out⟩
            | true =>
              refine tk 23 hHeld ?_
              refine tk 24 hHeld ?_
              refine tk 25 hHeld ?_
              refine tk 26 hHeld ?_
              refine tk 27 hHeld ?_
              refine tk 28 hHeld ?_
              refine sk 29 hHeld ?_
              refine sk 30 hHeld ?_
              refine sk 31 hHeld ?_
              refine sk 32 hHeld ?_
              refine sk 33 hHeld ?_
              refine sk 34 hHeld ?_
              refine sk 35 hHeld ?_
              refine sk 36 hHeld ?_
              refine sk 37 hHeld ?_
              refine sk 38 hHeld ?_
              refine sk 39 hHeld ?_
              refine sk 40 hHeld ?_
              refine tk 41 hHeld ?_
              refine tk 42 hHeld ?_
              refine yD ?_
              have hls : (0 < 0 → lt pd xd = true) := fun h => absurd h (Nat.lt_irrefl 0)
              have HLS := Lib.hid hls
              have HF := Lib.hid (hR.out.1.then F2.out)
              have G0 := Lib.hid (And.intro HF.out (show ∀ y ∈ l.take 0, y.t = xt → y.a = xa from fun y hy => by simp at hy))
              clear hls
              go_wp2_with fail
              go_loopw [4] (fun i wq => ∃ j : Nat, j ≤ 0 ∧ i = .int .i64 j ∧ Hid (Fp Non w wq ∧ ∀ y ∈ l.take j, y.t = xt → y.a = xa)) (fun i _ => 0 - (RowKit.intOf i).toNat)
              case atStart => exact ⟨0, Nat.zero_le _, rfl, G0⟩
              case round =>
                clear G0
                obtain ⟨j, hj, rfl, hG⟩ := hrel
                rename World => wq
                have hje : j = 0 := by omega
                subst hje
                have p3 : (((0 : Nat) : Int) < ((0 : Nat) : Int)) = False := eq_false (by omega)
                
                have hM : Hid (Fp Non w wq ∧ RtH (l.take (0 + 1))) := ⟨hG.out.1, HN.out.2.2.2.1 rfl HLS.out hG.out.2⟩
                have hkn := HL.out
                clear hj
                go_wp2_with fail
                go_roundw
                case rel => exact ⟨0 + 1, by omega, by go_num, hM⟩
                case measure => simp [RowKit.intOf]; omega
      | succ k =>
        have hpc := hpc (Nat.succ_pos k)
        rw [Nat.add_sub_cancel] at hpc
        have HPC := Lib.hid hpc
        have HD := Lib.hid (fun W (f : Fp Non wr W) => And.intro (f.cell HCC.out.1 (fun h => h)) (And.intro (f.cell HCC.out.2.1 (fun h => h)) (And.intro (f.cell HCC.out.2.2 (fun h => h)) (f.cell HPC.out (fun h => h)))))
        have q7 : (k < n) = True := eq_true (by have := HL.out; omega)
        have q8 : ((k : Int) < (n : Int)) = True := eq_true (by have := HL.out; omega)
        have q9 : ((0 : Int) < (k : Int) + 1) = True := eq_true (by omega)
        have q10 : ((k : Int) + 1 < (n : Int)) = True := eq_true (by have := HL.out; omega)
        have q11 : IntKind.i64.wrap (k : Int) = (k : Int) := by rw [IntKind.wrap_i64]; have := HL.out; omega
        have q12 : ((0 : Int) ≤ (k : Int)) = True := eq_true (by omega)
        have q14 : ((0 : Int) ≤ (k : Int) + 1) = True := eq_true (by omega)
        have q13 : (k + 1 < n) = True := eq_true (by have := HL.out; omega)
        clear hpc
        go_wp2_with fail
        refine wp_region_held_drew (S := (fun W => W.cell? ⟨g, o + (k + 1) * 3, none⟩ = some (.string (B xd)) ∧ W.cell? ⟨g, o + (k + 1) * 3 + 1, none⟩ = some (.int .i64 xt) ∧ W.cell? ⟨g, o + (k + 1) * 3 + 2, none⟩ = some (.int .i64 xa) ∧ W.cell? ⟨g, o + k * 3, none⟩ = some (.string (B pd)))) (by kernel_rfl) ?_ (fun hHeld => ?_)
        · exact HD.out _ HFD.out
        refine tk 0 hHeld ?_
        refine tk 1 hHeld ?_
        refine tk 2 hHeld ?_
        refine tk 3 hHeld ?_
        refine tk 4 hHeld ?_
        refine rY 5 (fun K hK => ?_)
        go_simp
        refine (HRP.out.1 _).mono ?_
        rintro e w2 ⟨rfl, hf⟩
        have F2 := Lib.hid (HFD.out.then hf.fp)
        clear hf
        go_wp2_with fail
        refine hK.out _ _ (HD.out _ F2.out) (fun hHeld => ?_)
        clear hK K
        try simp only [zP, zN, zS, zT, zU]
        cases b1 with
        | false =>
          refine tk 6 hHeld ?_
          refine tk 7 hHeld ?_
          refine sk 8 hHeld ?_
          refine sk 9 hHeld ?_
          refine sk 10 hHeld ?_
          refine sk 11 hHeld ?_
          refine sk 12 hHeld ?_
          refine sk 13 hHeld ?_
          refine sk 14 hHeld ?_
          refine tk 15 hHeld ?_
          refine tk 16 hHeld ?_
          refine sk 17 hHeld ?_
          refine sk 18 hHeld ?_
          refine sk 19 hHeld ?_
          refine sk 20 hHeld ?_
          refine sk 21 hHeld ?_
          refine sk 22 hHeld ?_
          refine sk 23 hHeld ?_
          refine tk 24 hHeld ?_
          refine tk 25 hHeld ?_
          refine sk 26 hHeld ?_
          refine sk 27 hHeld ?_
          refine sk 28 hHeld ?_
          refine sk 29 hHeld ?_
          refine sk 30 hHeld ?_
          refine sk 31 hHeld ?_
          refine sk 32 hHeld ?_
          refine sk 33 hHeld ?_
          refine sk 34 hHeld ?_
          refine sk 35 hHeld ?_
          refine sk 36 hHeld ?_
          refine sk 37 hHeld ?_
          refine sk 38 hHeld ?_
          refine sk 39 hHeld ?_
          refine sk 40 hHeld ?_
          refine sk 41 hHeld ?_
          refine tk 42 hHeld ?_
          refine yD ?_
          have hbf : br = false := by
            cases br with
            | false => rfl
            | true => have := HN.out.1 rfl; simp at this
          subst hbf
          go_wp2
          go_ret
          exact ⟨rfl, hR.out.1.then F2.out⟩
        | true =>
          refine tk 6 hHeld ?_
          refine tk 7 hHeld ?_
          refine tk 8 hHeld ?_
          refine tk 9 hHeld ?_
          refine tk 10 hHeld ?_
          refine tk 11 hHeld ?_
          refine tk 12 hHeld ?_
          refine rY 13 (fun K hK => ?_)
          go_simp
          refine (HRP.out.2.1 _).mono ?_
          rintro e w3 ⟨rfl, rfl⟩
          go_wp2_with fail
          refine hK.out _ _ (HD.out _ F2.out) (fun hHeld => ?_)
          clear hK K
          try simp only [zP, zN, zS, zT, zU]
          cases b2 with
          | false =>
            refine tk 14 hHeld ?_
            refine tk 15 hHeld ?_
            refine tk 16 hHeld ?_
            refine sk 17 hHeld ?_
            refine sk 18 hHeld ?_
            refine sk 19 hHeld ?_
            refine sk 20 hHeld ?_
            refine sk 21 hHeld ?_
            refine sk 22 hHeld ?_
            refine sk 23 hHeld ?_
            refine tk 24 hHeld ?_
            refine tk 25 hHeld ?_
            refine sk 26 hHeld ?_
            refine sk 27 hHeld ?_
            refine sk 28 hHeld ?_
            refine sk 29 hHeld ?_
            refine sk 30 hHeld ?_
            refine sk 31 hHeld ?_
            refine sk 32 hHeld ?_
            refine sk 33 hHeld ?_
            refine sk 34 hHeld ?_
            refine sk 35 hHeld ?_
            refine sk 36 hHeld ?_
            refine sk 37 hHeld ?_
            refine sk 38 hHeld ?_
            refine sk 39 hHeld ?_
            refine sk 40 hHeld ?_
            refine sk 41 hHeld ?_
            refine tk 42 hHeld ?_
            refine yD ?_
            have hbf : br = false := by
              cases br with
              | false => rfl
              | true => have := HN.out.1 rfl; simp at this
            subst hbf
            go_wp2
            go_ret
            exact ⟨rfl, hR.out.1.then F2.out⟩
          | true =>
            refine tk 14 hHeld ?_
            refine tk 15 hHeld ?_
            refine tk 16 hHeld ?_
            refine tk 17 hHeld ?_
            refine tk 18 hHeld ?_
            refine tk 19 hHeld ?_
            refine tk 20 hHeld ?_
            refine tk 21 hHeld ?_
            refine rY 22 (fun K hK => ?_)
            go_simp
            refine (HRP.out.2.2 _).mono ?_
            rintro e w3 ⟨rfl, rfl⟩
            go_wp2_with fail
            refine hK.out _ _ (HD.out _ F2.out) (fun hHeld => ?_)
            clear hK K
            try simp only [zP, zN, zS, zT, zU]
            cases b3 with
            | false =>
              refine tk 23 hHeld ?_
              refine tk 24 hHeld ?_
              refine tk 25 hHeld ?_
              refine sk 26 hHeld ?_
              refine sk 27 hHeld ?_
              refine sk 28 hHeld ?_
              refine sk 29 hHeld ?_
              refine sk 30 hHeld ?_
              refine sk 31 hHeld ?_
              refine sk 32 hHeld ?_
              refine sk 33 hHeld ?_
              refine sk 34 hHeld ?_
              refine sk 35 hHeld ?_
              refine sk 36 hHeld ?_
              refine sk 37 hHeld ?_
              refine sk 38 hHeld ?_
              refine sk 39 hHeld ?_
              refine sk 40 hHeld ?_
              refine sk 41 hHeld ?_
              refine tk 42 hHeld ?_
              refine yD ?_
              have hbf : br = false := by
                cases br with
                | false => rfl
                | true => have := HN.out.1 rfl; simp at this
              subst hbf
              go_wp2
              go_ret
              exact ⟨rfl, hR.out.1.then F2.out⟩
            | true =>
              refine tk 23 hHeld ?_
              refine tk 24 hHeld ?_
              refine tk 25 hHeld ?_
              refine tk 26 hHeld ?_
              refine tk 27 hHeld ?_
              refine tk 28 hHeld ?_
              refine tk 29 hHeld ?_
              refine tk 30 hHeld ?_
              refine tk 31 hHeld ?_
              refine tk 32 hHeld ?_
              refine tk 33 hHeld ?_
              refine tk 34 hHeld ?_
              refine tk 35 hHeld ?_
              refine tk 36 hHeld ?_
              refine tk 37 hHeld ?_
              refine tk 38 hHeld ?_
              refine tk 39 hHeld ?_
              refine tk 40 hHeld ?_
              refine tk 41 hHeld ?_
              refine tk 42 hHeld ?_
              refine yD ?_
              cases hlq : lt pd xd with
              | true =>
                have hlq1 : Op.bytesLess pd xd = true := hlq
                rw [hlq1]
                have hls : (0 < k + 1 → lt pd xd = true) := fun _ => hlq
                have HLS := Lib.hid hls
                have HF := Lib.hid (hR.out.1.then F2.out)
                have G0 := Lib.hid (And.intro HF.out (show ∀ y ∈ l.take 0, y.t = xt → y.a = xa from fun y hy => by simp at hy))
                clear hls
                go_wp2_with fail
                go_loopw [4] (fun i wq => ∃ j : Nat, j ≤ (k + 1) ∧ i = .int .i64 j ∧ Hid (Fp Non w wq ∧ ∀ y ∈ l.take j, y.t = xt → y.a = xa)) (fun i _ => (k + 1) - (RowKit.intOf i).toNat)
                case atStart => exact ⟨0, Nat.zero_le _, rfl, G0⟩
                case round =>
                  clear G0
                  obtain ⟨j, hj, rfl, hG⟩ := hrel
                  rename World => wq
                  by_cases hlt2 : j < (k + 1)
                  · have hjl : j < l.length := by have := HX.out.1; have := HL.out; omega
                    have hnd := HN.out.2.2.2.2 j hjl wq hG.out.1
                    have hnk := HN.out.2.2.2.2 ((k + 1)) (by have := HX.out.1; have := HL.out; omega) wq hG.out.1
                    have hxe : l[(k + 1)]'(by have := HX.out.1; have := HL.out; omega) = ⟨xd, xt, xa⟩ := HXE.out
                    rw [hxe] at hnk
                    have htk : l.take (j + 1) = l.take j ++ [l[j]] := List.take_succ_eq_append_getElem hjl
                    have hba := HN.out.2.1
                    have hmem : l[j] ∈ l.take ((k + 1)) := List.mem_iff_getElem.2 ⟨j, by rw [List.length_take]; omega, by rw [List.getElem_take]⟩
                    have hbj : br = true → l[j].t = xt → l[j].a = xa := fun h e => hba h l[j] hmem e
                    obtain ⟨y, hy⟩ : ∃ y, y = l[j] := ⟨_, rfl⟩
                    rw [← hy] at hnd htk hbj
                    clear hy hmem hba hxe
                    obtain ⟨yd, yt, ya⟩ := y
                    have d1 := hnd.c1; have d2 := hnd.c2
                    have e1 := hnk.c1; have e2 := hnk.c2
                    simp only at d1 d2 e1 e2 hbj
                    have p3 : ((j : Int) < (((k + 1) : Nat) : Int)) = True := eq_true (by omega)
                    have p4 : (j < (k + 1)) = True := eq_true hlt2
                    have p7 : ((j : Int) < (k : Int) + 1) = True := eq_true (by omega)
                    have p5 : (j < n) = True := eq_true (by have := HL.out; omega)
                    have p6 : ((j : Int) < (n : Int)) = True := eq_true (by have := HL.out; omega)
                    have HJ := Lib.hid (And.intro htk (And.intro hbj hlt2))
                    clear hnd hnk htk hbj hlt2 hjl
                    by_cases hte : yt = xt
                    · have r1 : (yt == xt) = true := beq_iff_eq.2 hte
                      have r2 : (yt = xt) = True := eq_true hte
                      by_cases hae : ya = xa
                      · have r3 : (ya != xa) = false := by simp [hae]
                        have r4 : (ya == xa) = true := beq_iff_eq.2 hae
                        have HM := Lib.hid (show ∀ y ∈ l.take (j + 1), y.t = xt → y.a = xa from fun y hy e => by
                          rw [HJ.out.1] at hy
                          rcases List.mem_append.1 hy with hy | hy
                          · exact hG.out.2 y hy e
                          · rw [List.mem_singleton] at hy; subst hy; exact hae)
                        clear hte hae
                        go_wp2_with fail
                        go_quiet (fail)
                        go_wp2_with fail
                        have hjj := HJ.out.2.2
                        go_roundw
                        case rel => exact ⟨j + 1, by omega, by go_num, hG.out.1.drewN _, HM.out⟩
                        case measure => simp [RowKit.intOf]; omega
                      · have r3 : (ya != xa) = true := by simp [hae]
                        have r4 : (ya == xa) = false := beq_eq_false_iff_ne.2 hae
                        have hbf : br = false := by
                          cases br with
                          | false => rfl
                          | true => exact absurd (HJ.out.2.1 rfl hte) hae
                        subst hbf
                        clear hte hae
                        go_wp2_with fail
                        go_quiet (fail)
                        go_wp2
                        go_ret
                        exact ⟨rfl, hG.out.1.drewN _⟩
                    · have r1 : (yt == xt) = false := beq_eq_false_iff_ne.2 hte
                      have r2 : (yt = xt) = False := eq_false hte
                      have HM := Lib.hid (show ∀ y ∈ l.take (j + 1), y.t = xt → y.a = xa from fun y hy e => by
                        rw [HJ.out.1] at hy
                        rcases List.mem_append.1 hy with hy | hy
                        · exact hG.out.2 y hy e
                        · rw [List.mem_singleton] at hy; subst hy; exact absurd e hte)
                      clear hte
                      go_wp2_with fail
                      go_quiet (fail)
                      go_wp2_with fail
                      have hjj := HJ.out.2.2
                      go_roundw
                      case rel => exact ⟨j + 1, by omega, by go_num, hG.out.1.drewN _, HM.out⟩
                      case measure => simp [RowKit.intOf]; omega
                  · have hje : j = (k + 1) := by omega
                    subst hje
                    have p3 : ((((k + 1) : Nat) : Int) < (((k + 1) : Nat) : Int)) = False := eq_false (by omega)
                    have p7 : ((k : Int) + 1 < (k : Int) + 1) = False := eq_false (by omega)
                    have hM : Hid (Fp Non w wq ∧ RtH (l.take ((k + 1) + 1))) := ⟨hG.out.1, HN.out.2.2.2.1 rfl HLS.out hG.out.2⟩
                    have hkn := HL.out
                    clear hlt2 hj
                    go_wp2_with fail
                    go_roundw
                    case rel => exact ⟨(k + 1) + 1, by omega, by go_num, hM⟩
                    case measure => simp [RowKit.intOf]; omega
              | false =>
                have hlq1 : Op.bytesLess pd xd = false := hlq
                rw [hlq1]
                have hbf : br = false := by
                  cases br with
                  | false => rfl
                  | true => have := HN.out.2.2.1 rfl (Nat.succ_pos k); rw [hlq] at this; cases this
                subst hbf
                go_wp2
                go_ret
                exact ⟨rfl, hR.out.1.then F2.out⟩
    · have hke : k = n := by omega
      subst hke
      have q3 : ((k : Int) < (k : Int)) = False := eq_false (by omega)
      have hrt := hR.out.2
      rw [HX.out.1, List.take_length] at hrt
      have hbt : br = true := HX.out.2.2.2.2 hrt
      subst hbt
      clear hlt hk hrt
      go_wp2
      go_ret
      exact ⟨rfl, hR.out.1⟩
end Go.Proofs.YtenaggleepoclaaGreat
