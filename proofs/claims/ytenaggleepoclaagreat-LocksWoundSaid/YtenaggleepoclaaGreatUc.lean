/- LocksWound: whoever is wounded holds what is asked, and is younger; with all that are wounded let go only older ones are in the way (gen_uc.py) -/
import Derived.Test.YtenaggleepoclaaGreatJy
import Derived.Test.YtenaggleepoclaaGreatJv
namespace Go.Proofs.YtenaggleepoclaaGreat
set_option maxRecDepth 20000
set_option linter.unusedVariables false
set_option linter.unusedSimpArgs false
open Go.RowKit Pm


/-- A flag says this. -/
structure Flag (b : Bool) (P : Prop) : Prop where
  iff : b = true ↔ P
theorem freeAll_take (l : List Hl) (ws : List Int) (k : Nat) (h : k < ws.length) : freeH (freeAll l (ws.take k)) ws[k] = freeAll l (ws.take (k + 1)) := by
  rw [freeAll_snoc, List.take_succ_eq_append_getElem h]

set_option maxHeartbeats 8000000 in
theorem lawLocksWound_c (v : Value) (l : List Hl) (t a : Int) (vd : Value) (ds : List Bs) (w : World) (hv : NsH w v l) (hn : l.length ≤ 140737488355328) (hd : Tx w vd ds) (hm : ds.length ≤ 140737488355328) :
    Calls Tryz.prog 7 #[v, .int .i64 t, .int .i64 a, vd] w fun e w' => e = .returned (.bool true) ∧ Fp Non w w' := by
  obtain ⟨ao, cap, rfl⟩ := hv.shape
  obtain ⟨ad, cd, rfl⟩ := hd.shape
  obtain ⟨n, hnn⟩ : ∃ n, n = l.length := ⟨_, rfl⟩
  obtain ⟨m, hmm⟩ : ∃ m, m = ds.length := ⟨_, rfl⟩
  have hgr := fun W (f : Fp Non w W) => great_c _ _ l ds W (hv.non f) (hd.non f) hn hm
  have hrr := fun W (f : Fp Non w W) (h : HSp l) (k : l.length ≤ 90000) => rRight_c _ l W (hv.non f) h k
  rw [← hnn] at hv hgr hrr ⊢
  rw [← hmm] at hd hgr ⊢
  have HNN := Lib.hid (And.intro hnn hmm)
  have HV := Lib.hid hv
  have HD := Lib.hid hd
  have HG := Lib.hid hgr
  have HRR := Lib.hid hrr
  clear hgr hrr hv hn hnn hd hm hmm
  go_enter Tryz.func7, Tryz.ntmps7
  go_wp2_with fail
  refine (head_c _).mono ?_
  rintro e w1 ⟨rfl, hf1⟩
  have F1 := Lib.hid hf1
  clear hf1
  go_wp2_with fail
  refine (HG.out _ F1.out).mono ?_
  rintro e w2 ⟨gr, rfl, hg, hf2⟩
  have F2 := Lib.hid (F1.out.then hf2)
  clear hf2 F1
  cases gr with
  | true =>
    clear hg
    go_wp2
    go_ret
    exact ⟨rfl, F2.out⟩
  | false =>
  have FEW := Lib.hid (hg rfl)
  clear hg
  have hnb : n ≤ 200 := by have := FEW.out.nl; have := HNN.out.1; omega
  have hmb : m ≤ 200 := by have := FEW.out.nd; have := HNN.out.2; omega
  go_wp2_with fail
  refine (HRR.out _ F2.out FEW.out.hs (by have := HNN.out.1; omega)).mono ?_
  rintro e w3 ⟨rfl, hf3⟩
  have F3 := Lib.hid (F2.out.then hf3)
  clear hf3 F2
  cases hrt : rightH l with
  | false =>
    clear hrt
    go_wp2
    go_ret
    exact ⟨rfl, F3.out⟩
  | true =>
  have HRT := Lib.hid ((right_iff l).1 hrt)
  clear hrt
  by_cases h0 : t < 0
  · have sh0 : ((t : Int) < 0) = True := eq_true h0
    clear h0
    go_wp2
    go_ret
    exact ⟨rfl, F3.out⟩
  have sh0 : ((t : Int) < 0) = False := eq_false h0
  by_cases h1 : a < 0
  · have sh1 : ((a : Int) < 0) = True := eq_true h1
    clear h1
    go_wp2
    go_ret
    exact ⟨rfl, F3.out⟩
  have sh1 : ((a : Int) < 0) = False := eq_false h1
  by_cases h2 : 1099511627776 < t
  · have sh2 : ((1099511627776 : Int) < t) = True := eq_true h2
    clear h2
    go_wp2
    go_ret
    exact ⟨rfl, F3.out⟩
  have sh2 : ((1099511627776 : Int) < t) = False := eq_false h2
  by_cases h3 : 1099511627776 < a
  · have sh3 : ((1099511627776 : Int) < a) = True := eq_true h3
    clear h3
    go_wp2
    go_ret
    exact ⟨rfl, F3.out⟩
  have sh3 : ((1099511627776 : Int) < a) = False := eq_false h3
  have HNT := Lib.hid (And.intro h0 (And.intro h1 (And.intro h2 h3)))
  clear h0 h1 h2 h3
  obtain ⟨A, ws, is, hA⟩ : ∃ A wl is, takeH l t a ds = (A, wl, is) := ⟨_, _, _, rfl⟩
  have htk := fun u M W (hW : NsH W u M) (hs : HSp M) (hl : M.length ≤ 200) (f : Fp Non w W) => Take_c u _ M t a ds W hW hs (HD.out.non f |> fun h => by rw [HNN.out.2] at h; exact h) FEW.out.ss (by omega) (by have := FEW.out.nd; omega)
  rw [← HNN.out.2] at htk
  have HTK := Lib.hid htk
  clear htk
  go_wp2_with fail
  refine (HTK.out _ l _ (HV.out.non F3.out) FEW.out.hs FEW.out.nl F3.out).mono ?_
  intro e w4 hR
  obtain ⟨x4, c4, y4, d4, rfl, n4, m4⟩ := hR.sh
  rw [hA] at n4 m4 ⊢
  simp only at n4 m4 ⊢
  have K4 := Lib.hid (Kp.and (Kp.nm m4) (Kp.fp (F3.out.then hR.fp)))
  clear hR n4 m4 F3
  cases is with
  | true =>
    obtain ⟨_, _, _, _, rfl⟩ := take_yes hA
    clear hA
    simp only [List.length_nil]
    go_wp2
    go_ret
    exact ⟨rfl, K4.out.now.2⟩
  | false =>
  rcases take_no hA with ⟨rfl, rfl⟩ | ⟨rfl, hwl, _, hmay, hway⟩
  · clear hA
    simp only [List.length_nil]
    go_wp2
    go_ret
    exact ⟨rfl, K4.out.now.2⟩
  have hn0 : 0 < A.length := by
    cases A with
    | nil => exact absurd rfl hway
    | cons x r => simp
  have hown : ∀ q ∈ ws, ∃ x ∈ A, x.t = q ∧ x.d ∈ ds ∧ yng t a x = true := fun q hq => wnd_own (by rw [← hwl]; exact hq)
  have hup : UpI ws := by rw [hwl]; exact ordI_up _
  have hth := wound_then HRT.out hmay
  rw [← hwl] at hth
  obtain ⟨nw, hnw⟩ : ∃ k, k = ws.length := ⟨_, rfl⟩
  rw [← hnw] at K4 ⊢
  rw [← HNN.out.1] at hn0 ⊢
  have HQ := Lib.hid (And.intro hown (And.intro hup (And.intro hth hnw)))
  have hwb : nw ≤ 200 := by
    have h1 : ws.length ≤ (A.map Hl.t).length := sub_len (hup.imp (fun {a b} (h : a < b) => by omega)) (fun x hx => by
      obtain ⟨y, hy, e, _⟩ := hown x hx
      exact List.mem_map.2 ⟨y, hy, e⟩)
    rw [List.length_map] at h1
    have := HNN.out.1; omega
  have q1 : ((n : Int) == 0) = false := beq_eq_false_iff_ne.2 (by omega)
  have q2 : ((n : Int) = 0) = False := eq_false (by omega)
  have q3 : (n == 0) = false := beq_eq_false_iff_ne.2 (by omega)
  have q4 : (n = 0) = False := eq_false (by omega)
  have q9 : (0 < n) = True := eq_true hn0
  have H0 : Hid (Kp (fun W' => NsH W' (.slice ao n cap) (freeAll A (ws.take 0)) ∧ Nm W' (.slice y4 nw d4) ws ∧ Fp Non w W') w4) := fun W f => ⟨by rw [List.take_zero, freeAll_nil]; exact HV.out.non (K4.out.now.2.then f), (K4.out W f).1, (K4.out W f).2⟩
  have hfl : ∀ ns, (freeAll A ns).length ≤ 200 := fun ns => Nat.le_trans (List.length_filter_le _ _) (by have := HNN.out.1; omega)
  have HFL := Lib.hid hfl
  clear hA hwl hmay hway hown hup hth hnw hn0 hfl
  go_wp2_with fail
  go_loopw [13, 14] (fun u i wr => ∃ k : Nat, k ≤ nw ∧ i = .int .i64 k ∧ ∃ ma nm mc, u = .slice ma nm mc ∧ Hid (nm = (freeAll A (ws.take k)).length ∧ Kp (fun W' => NsH W' (.slice ma nm mc) (freeAll A (ws.take k)) ∧ Nm W' (.slice y4 nw d4) ws ∧ Fp Non w W') wr)) (fun _ i _ => nw - (RowKit.intOf i).toNat)
  case atStart => exact ⟨0, Nat.zero_le _, rfl, ao, n, cap, rfl, by rw [List.take_zero, freeAll_nil]; exact HNN.out.1, H0.out⟩
  case round =>
    clear H0
    obtain ⟨k, hk, rfl, ma, nm, mc, rfl, hR⟩ := hrel
    rename_i wr _
    by_cases hlt : k < nw
    · have hkl : k < ws.length := by rw [← HQ.out.2.2.2]; exact hlt
      obtain ⟨g, o, cap', e, hcell⟩ := hR.out.2.now.2.1.at (by omega)
      rw [← HQ.out.2.2.2] at e
      injection e with e1 e2 e3
      subst e1 e3
      have hnum := fun (j : Nat) (hj : j < ws.length) W (f : Fp Non wr W) => ((hcell j hj).keep f (fun h => h)).nm
      have hwn := HQ.out.1 ws[k] (List.getElem_mem hkl)
      have hft := freeAll_take A ws k hkl
      have hprev : ∀ h0 : 0 < k, ws[k - 1]'(by omega) < ws[k] := fun h0 => List.pairwise_iff_getElem.1 HQ.out.2.1 (k - 1) k (by omega) hkl (by omega)
      obtain ⟨pw, hpw⟩ : ∃ pw : Int, ∀ h0 : 0 < k, (ws[k - 1]'(by omega)) = pw := by
        by_cases h0 : 0 < k
        · exact ⟨ws[k - 1]'(by omega), fun _ => rfl⟩
        · exact ⟨0, fun h => absurd h h0⟩
      have hprev2 : 0 < k → pw < ws[k] := fun h0 => by rw [← hpw h0]; exact hprev h0
      have hpc : 0 < k → ∀ W, Fp Non wr W → W.cell? ⟨g, o + (k - 1), none⟩ = some (.int .i64 pw) := fun h0 W f => by rw [← hpw h0]; exact hnum (k - 1) (by omega) W f
      have hcc : ∀ W, Fp Non wr W → W.cell? ⟨g, o + k, none⟩ = some (.int .i64 ws[k]) := fun W f => hnum k hkl W f
      clear hprev hpw hnum
      obtain ⟨q, hq⟩ : ∃ q, q = ws[k] := ⟨_, rfl⟩
      rw [← hq] at hwn hft hprev2 hcc
      have HL := Lib.hid (And.intro hlt (And.intro hwn (And.intro hft (And.intro hprev2 (And.intro hpc hcc)))))
      have q13 : ((k : Int) < (nw : Int)) = True := eq_true (by omega)
      have q14 : (k < nw) = True := eq_true hlt
      have HR := Lib.hid hR.out
      have HNM := Lib.hid hR.out.1
      clear hwn hft hprev2 hpc hcc hq hlt hkl hcell hR
      go_wp2_with fail
      go_loopw [15, 16] (fun b i wz => ∃ j : Nat, j ≤ n ∧ i = .int .i64 j ∧ ∃ bb : Bool, b = .bool bb ∧ Hid (Flag bb (∃ x ∈ A.take j, x.t = q ∧ x.d ∈ ds ∧ yng t a x = true) ∧ Fp Non wr wz)) (fun _ i _ => n - (RowKit.intOf i).toNat)
      case atStart => exact ⟨0, Nat.zero_le _, rfl, false, rfl, ⟨by simp⟩, Fp.refl _ _⟩
      case round =>
        obtain ⟨j, hj, rfl, bb, rfl, hB⟩ := hrel
        rename World => wz
        by_cases hlj : j < n
        · have hjl : j < A.length := by rw [← HNN.out.1]; exact hlj
          obtain ⟨g2, o2, cap2, e, _, _, _, hcell2⟩ := HV.out.at (by omega)
          rw [← HNN.out.1] at e
          injection e with e1 e2 e3
          subst e1 e3
          have hnd := fun W (f : Fp Non wz W) => (hcell2 j hjl).keep ((HR.out.2.now.2.2.then hB.out.2).then f) (fun h => h)
          have hts : A.take (j + 1) = A.take j ++ [A[j]] := List.take_succ_eq_append_getElem hjl
          obtain ⟨x, hx⟩ : ∃ x, x = A[j] := ⟨_, rfl⟩
          rw [← hx] at hnd hts
          clear hx hcell2 hjl
          obtain ⟨xd, xt, xa⟩ := x
          have p13 : ((j : Int) < (n : Int)) = True := eq_true (by omega)
          have p14 : (j < n) = True := eq_true hlj
          have HLj := Lib.hid (And.intro hlj (And.intro hts hnd))
          clear hlj hts hnd
          go_wp2_with fail
          go_loopw [15, 17] (fun b i wy => ∃ p : Nat, p ≤ m ∧ i = .int .i64 p ∧ ∃ bb : Bool, b = .bool bb ∧ Hid (Flag bb ((∃ x ∈ A.take j, x.t = q ∧ x.d ∈ ds ∧ yng t a x = true) ∨ (xt = q ∧ xd ∈ ds.take p ∧ yng t a ⟨xd, xt, xa⟩ = true)) ∧ Fp Non wz wy)) (fun _ i _ => m - (RowKit.intOf i).toNat)
          case atStart => exact ⟨0, Nat.zero_le _, rfl, bb, rfl, ⟨by rw [hB.out.1.iff]; simp⟩, Fp.refl _ _⟩
          case round =>
            obtain ⟨p, hp, rfl, b2, rfl, hC⟩ := hrel
            rename World => wy
            by_cases hlp : p < m
            · have hpl : p < ds.length := by rw [← HNN.out.2]; exact hlp
              obtain ⟨g3, o3, cap3, e, hcell3⟩ := HD.out.txs (by omega)
              rw [← HNN.out.2] at e
              injection e with e1 e2 e3
              subst e1 e3
              have hfz := (HR.out.2.now.2.2.then hB.out.2).then hC.out.2
              have d0 := hfz.cell (hcell3 p hpl) (fun h => h)
              have htp : ds.take (p + 1) = ds.take p ++ [ds[p]] := List.take_succ_eq_append_getElem hpl
              obtain ⟨s, hs⟩ : ∃ s, s = ds[p] := ⟨_, rfl⟩
              rw [← hs] at d0 htp
              clear hs hcell3 hpl
              have hnx := HLj.out.2.2 wy hC.out.2
              have x0 := hnx.c0; have x1 := hnx.c1; have x2 := hnx.c2
              unfold strV at x0
              simp only at x0 x1 x2
              have wk := HL.out.2.2.2.2.2 wy (hB.out.2.then hC.out.2)
              have r13 : ((p : Int) < (m : Int)) = True := eq_true (by omega)
              have r14 : (p < m) = True := eq_true hlp
              have r15 := HLj.out.1
              have r16 : (j < n) = True := eq_true r15
              have r17 : ((j : Int) < (n : Int)) = True := eq_true (by omega)
              have r18 : (k < nw) = True := eq_true HL.out.1
              have r19 : ((k : Int) < (nw : Int)) = True := eq_true (by have := HL.out.1; omega)
              have HLp := Lib.hid (And.intro hlp htp)
              clear hlp htp hnx hfz r15
              cases b2 with
              | true =>
                have hM : Hid (Flag true ((∃ x ∈ A.take j, x.t = q ∧ x.d ∈ ds ∧ yng t a x = true) ∨ (xt = q ∧ xd ∈ ds.take (p + 1) ∧ yng t a ⟨xd, xt, xa⟩ = true)) ∧ Fp Non wz wy) := ⟨⟨by
                  rw [HLp.out.2]
                  exact ⟨fun _ => (hC.out.1.iff.1 rfl).imp id (fun ⟨u1, u2, u3⟩ => ⟨u1, List.mem_append.2 (.inl u2), u3⟩), fun _ => rfl⟩
                ⟩, hC.out.2⟩
                have hkn := HLp.out.1
                skip
                go_wp2_with fail
                go_quiet (fail)
                go_wp2_with fail
                go_roundw
                case rel => exact ⟨p + 1, by omega, by go_num, true, rfl, hM.out.1, hM.out.2.drewN _⟩
                case measure => simp [RowKit.intOf]; omega
              | false =>
                by_cases h5 : xt = q
                · have h5a : (xt == q) = true := beq_iff_eq.2 h5
                  have h5b : (xt = q) = True := eq_true h5
                  have h5c : (xt != q) = false := by simp [h5]
                  by_cases h6 : xd = s
                  · have h6a : (xd == s) = true := beq_iff_eq.2 h6
                    have h6b : (xd = s) = True := eq_true h6
                    have h6c : (xd != s) = false := by simp [h6]
                    by_cases h7 : a < xa
                    · have h7a : (a < xa) = True := eq_true h7
                      have hM : Hid (Flag true ((∃ x ∈ A.take j, x.t = q ∧ x.d ∈ ds ∧ yng t a x = true) ∨ (xt = q ∧ xd ∈ ds.take (p + 1) ∧ yng t a ⟨xd, xt, xa⟩ = true)) ∧ Fp Non wz wy) := ⟨⟨by
                        rw [HLp.out.2]
                        exact ⟨fun _ => .inr ⟨h5, List.mem_append.2 (.inr (List.mem_singleton.2 h6)), by unfold yng; simp [h7]⟩, fun _ => rfl⟩
                      ⟩, hC.out.2⟩
                      have hkn := HLp.out.1
                      clear h5 h6 h7
                      go_wp2_with fail
                      go_quiet (fail)
                      go_wp2_with fail
                      go_roundw
                      case rel => exact ⟨p + 1, by omega, by go_num, true, rfl, hM.out.1, hM.out.2.drewN _⟩
                      case measure => simp [RowKit.intOf]; omega
                    · have h7a : (a < xa) = False := eq_false h7
                      by_cases h8 : xa = a
                      · have h8a : (xa == a) = true := beq_iff_eq.2 h8
                        have h8b : (xa = a) = True := eq_true h8
                        have h8c : (xa != a) = false := by simp [h8]
                        by_cases h9 : t < xt
                        · have h9a : (t < xt) = True := eq_true h9
                          have hM : Hid (Flag true ((∃ x ∈ A.take j, x.t = q ∧ x.d ∈ ds ∧ yng t a x = true) ∨ (xt = q ∧ xd ∈ ds.take (p + 1) ∧ yng t a ⟨xd, xt, xa⟩ = true)) ∧ Fp Non wz wy) := ⟨⟨by
                            rw [HLp.out.2]
                            exact ⟨fun _ => .inr ⟨h5, List.mem_append.2 (.inr (List.mem_singleton.2 h6)), by unfold yng; simp [h8, h9]⟩, fun _ => rfl⟩
                          ⟩, hC.out.2⟩
                          have hkn := HLp.out.1
                          clear h5 h6 h7 h8 h9
                          go_wp2_with fail
                          go_quiet (fail)
                          go_wp2_with fail
                          go_roundw
                          case rel => exact ⟨p + 1, by omega, by go_num, true, rfl, hM.out.1, hM.out.2.drewN _⟩
                          case measure => simp [RowKit.intOf]; omega
                        · have h9a : (t < xt) = False := eq_false h9
                          have hM : Hid (Flag false ((∃ x ∈ A.take j, x.t = q ∧ x.d ∈ ds ∧ yng t a x = true) ∨ (xt = q ∧ xd ∈ ds.take (p + 1) ∧ yng t a ⟨xd, xt, xa⟩ = true)) ∧ Fp Non wz wy) := ⟨⟨by
                            rw [HLp.out.2]
                            refine ⟨fun h => (Bool.noConfusion h), fun h => hC.out.1.iff.2 (h.imp id (fun ⟨u1, u2, u3⟩ => ?_))⟩
                            have : yng t a ⟨xd, xt, xa⟩ = false := by unfold yng; simp [h7, h9]
                            rw [this] at u3; cases u3
                          ⟩, hC.out.2⟩
                          have hkn := HLp.out.1
                          clear h5 h6 h7 h8 h9
                          go_wp2_with fail
                          go_quiet (fail)
                          go_wp2_with fail
                          go_roundw
                          case rel => exact ⟨p + 1, by omega, by go_num, false, rfl, hM.out.1, hM.out.2.drewN _⟩
                          case measure => simp [RowKit.intOf]; omega
                      · have h8a : (xa == a) = false := beq_eq_false_iff_ne.2 h8
                        have h8b : (xa = a) = False := eq_false h8
                        have h8c : (xa != a) = true := by simp [h8]
                        have hM : Hid (Flag false ((∃ x ∈ A.take j, x.t = q ∧ x.d ∈ ds ∧ yng t a x = true) ∨ (xt = q ∧ xd ∈ ds.take (p + 1) ∧ yng t a ⟨xd, xt, xa⟩ = true)) ∧ Fp Non wz wy) := ⟨⟨by
                          rw [HLp.out.2]
                          refine ⟨fun h => (Bool.noConfusion h), fun h => hC.out.1.iff.2 (h.imp id (fun ⟨u1, u2, u3⟩ => ?_))⟩
                          have : yng t a ⟨xd, xt, xa⟩ = false := by unfold yng; simp [h7, h8]
                          rw [this] at u3; cases u3
                        ⟩, hC.out.2⟩
                        have hkn := HLp.out.1
                        clear h5 h6 h7 h8
                        go_wp2_with fail
                        go_quiet (fail)
                        go_wp2_with fail
                        go_roundw
                        case rel => exact ⟨p + 1, by omega, by go_num, false, rfl, hM.out.1, hM.out.2.drewN _⟩
                        case measure => simp [RowKit.intOf]; omega
                  · have h6a : (xd == s) = false := beq_eq_false_iff_ne.2 h6
                    have h6b : (xd = s) = False := eq_false h6
                    have h6c : (xd != s) = true := by simp [h6]
                    have hM : Hid (Flag false ((∃ x ∈ A.take j, x.t = q ∧ x.d ∈ ds ∧ yng t a x = true) ∨ (xt = q ∧ xd ∈ ds.take (p + 1) ∧ yng t a ⟨xd, xt, xa⟩ = true)) ∧ Fp Non wz wy) := ⟨⟨by
                      rw [HLp.out.2]
                      refine ⟨fun h => (Bool.noConfusion h), fun h => hC.out.1.iff.2 (h.imp id (fun ⟨u1, u2, u3⟩ => ?_))⟩
                      refine ⟨u1, ?_, u3⟩
                      rcases List.mem_append.1 u2 with u2 | u2
                      · exact u2
                      · rw [List.mem_singleton] at u2; exact absurd u2 h6
                    ⟩, hC.out.2⟩
                    have hkn := HLp.out.1
                    clear h5 h6
                    go_wp2_with fail
                    go_quiet (fail)
                    go_wp2_with fail
                    go_roundw
                    case rel => exact ⟨p + 1, by omega, by go_num, false, rfl, hM.out.1, hM.out.2.drewN _⟩
                    case measure => simp [RowKit.intOf]; omega
                · have h5a : (xt == q) = false := beq_eq_false_iff_ne.2 h5
                  have h5b : (xt = q) = False := eq_false h5
                  have h5c : (xt != q) = true := by simp [h5]
                  have hM : Hid (Flag false ((∃ x ∈ A.take j, x.t = q ∧ x.d ∈ ds ∧ yng t a x = true) ∨ (xt = q ∧ xd ∈ ds.take (p + 1) ∧ yng t a ⟨xd, xt, xa⟩ = true)) ∧ Fp Non wz wy) := ⟨⟨by
                    rw [HLp.out.2]
                    refine ⟨fun h => (Bool.noConfusion h), fun h => hC.out.1.iff.2 (h.imp id (fun ⟨u1, u2, u3⟩ => ?_))⟩
                    exact absurd u1 h5
                  ⟩, hC.out.2⟩
                  have hkn := HLp.out.1
                  clear h5
                  go_wp2_with fail
                  go_quiet (fail)
                  go_wp2_with fail
                  go_roundw
                  case rel => exact ⟨p + 1, by omega, by go_num, false, rfl, hM.out.1, hM.out.2.drewN _⟩
                  case measure => simp [RowKit.intOf]; omega
            · have hpe : p = m := by omega
              subst hpe
              have r13 : ((p : Int) < (p : Int)) = False := eq_false (by omega)
              have hM : Hid (Flag b2 (∃ x ∈ A.take (j + 1), x.t = q ∧ x.d ∈ ds ∧ yng t a x = true) ∧ Fp Non wr wy) := ⟨⟨by
                have h := hC.out.1.iff
                rw [HNN.out.2, List.take_length] at h
                rw [h, HLj.out.2.1]
                constructor
                · rintro (⟨x, h1, h2⟩ | ⟨h1, h2, h3⟩)
                  · exact ⟨x, List.mem_append.2 (.inl h1), h2⟩
                  · exact ⟨_, List.mem_append.2 (.inr (List.mem_singleton.2 rfl)), h1, h2, h3⟩
                · rintro ⟨x, h1, h2⟩
                  rcases List.mem_append.1 h1 with h1 | h1
                  · exact .inl ⟨x, h1, h2⟩
                  · rw [List.mem_singleton] at h1; subst h1; exact .inr h2⟩, hB.out.2.then hC.out.2⟩
              have hkn := HLj.out.1
              clear hlp hp
              go_wp2_with fail
              go_roundw
              case rel => exact ⟨j + 1, by omega, by go_num, b2, rfl, hM⟩
              case measure => simp [RowKit.intOf]; omega
        · have hje : j = n := by omega
          subst hje
          have p13 : ((j : Int) < (j : Int)) = False := eq_false (by omega)
          have hbt : bb = true := by
            have h := hB.out.1.iff
            rw [HNN.out.1, List.take_length] at h
            exact h.2 HL.out.2.1
          subst hbt
          have wk := HL.out.2.2.2.2.2 wz hB.out.2
          have r18 : (k < nw) = True := eq_true HL.out.1
          have r19 : ((k : Int) < (nw : Int)) = True := eq_true (by have := HL.out.1; omega)
          have KR := Lib.hid (HR.out.2.later hB.out.2)
          have hfz := fun W (hW : NsH W (.slice ma nm mc) (freeAll A (ws.take k))) => Free_c (.slice ma nm mc) _ q W hW (all_right _ HRT.out).sp (by have := HFL.out (ws.take k); omega)
          rw [HL.out.2.2.1] at hfz
          have HFZ := Lib.hid hfz
          clear hfz hlj hj
          by_cases hk0 : 0 < k
          · have hpv := HL.out.2.2.2.1 hk0
            have wp := HL.out.2.2.2.2.1 hk0 wz hB.out.2
            obtain ⟨k1, rfl⟩ : ∃ k1, k = k1 + 1 := ⟨k - 1, by omega⟩
            rw [Nat.add_sub_cancel] at wp
            have s1 : ((0 : Int) < ((k1 + 1 : Nat) : Int)) = True := eq_true (by omega)
            have s2 : ((0 : Int) < (k1 : Int) + 1) = True := eq_true (by omega)
            have s3 : (q ≤ pw) = False := eq_false (by omega)
            have s4 : IntKind.i64.wrap (k1 : Int) = (k1 : Int) := by rw [IntKind.wrap_i64]; omega
            have s5 : (k1 < nw) = True := eq_true (by have := HL.out.1; omega)
            have s6 : ((k1 : Int) < (nw : Int)) = True := eq_true (by have := HL.out.1; omega)
            have s7 : ((0 : Int) ≤ (k1 : Int)) = True := eq_true (by omega)
            have s8 : ((0 : Int) ≤ (k1 : Int) + 1) = True := eq_true (by omega)
            have s9 : ((k1 : Int) + 1 < (nw : Int)) = True := eq_true (by have := HL.out.1; omega)
            clear hk0 hpv
            go_wp2_with fail
            go_quiet (fail)
            go_wp2_with fail
            refine (HFZ.out _ ((KR.out.later ((Fp.refl Non wz).drewN _)).now.1)).mono ?_
            rintro e w8 ⟨v8, rfl, hH⟩
            have n8 := hH.own.ns
            obtain ⟨x8, c8, rfl⟩ := n8.shape
            obtain ⟨n9, hn9⟩ : ∃ k, k = (freeAll A (ws.take ((k1 + 1) + 1))).length := ⟨_, rfl⟩
            have hM : Hid (n9 = (freeAll A (ws.take ((k1 + 1) + 1))).length ∧ Kp (fun W' => NsH W' (.slice x8 n9 c8) (freeAll A (ws.take ((k1 + 1) + 1))) ∧ Nm W' (.slice (some ⟨g, o, none⟩) nw d4) ws ∧ Fp Non w W') w8) := ⟨hn9, Kp.and (Kp.nsH (by rw [hn9]; exact n8)) (fun W f => (KR.out W (((Fp.refl Non wz).drewN _).then (hH.fp.then f))).2)⟩
            rw [← hn9]
            have hkn := HL.out.1
            clear hH n8 hn9
            go_wp2_with fail
            go_roundw
            case rel => exact ⟨(k1 + 1) + 1, by omega, by go_num, x8, n9, c8, rfl, hM⟩
            case measure => simp [RowKit.intOf]; omega
          · obtain rfl : k = 0 := by omega
            have s1 : ((0 : Int) < ((0 : Nat) : Int)) = False := eq_false (by omega)
            simp only [Nat.add_zero] at wk
            clear hk0
            go_wp2_with fail
            go_quiet (fail)
            go_wp2_with fail
            refine (HFZ.out _ ((KR.out.later ((Fp.refl Non wz).drewN _)).now.1)).mono ?_
            rintro e w8 ⟨v8, rfl, hH⟩
            have n8 := hH.own.ns
            obtain ⟨x8, c8, rfl⟩ := n8.shape
            obtain ⟨n9, hn9⟩ : ∃ k, k = (freeAll A (ws.take (0 + 1))).length := ⟨_, rfl⟩
            have hM : Hid (n9 = (freeAll A (ws.take (0 + 1))).length ∧ Kp (fun W' => NsH W' (.slice x8 n9 c8) (freeAll A (ws.take (0 + 1))) ∧ Nm W' (.slice (some ⟨g, o, none⟩) nw d4) ws ∧ Fp Non w W') w8) := ⟨hn9, Kp.and (Kp.nsH (by rw [hn9]; exact n8)) (fun W f => (KR.out W (((Fp.refl Non wz).drewN _).then (hH.fp.then f))).2)⟩
            rw [← hn9]
            have hkn := HL.out.1
            clear hH n8 hn9
            go_wp2_with fail
            go_roundw
            case rel => exact ⟨0 + 1, by omega, by go_num, x8, n9, c8, rfl, hM⟩
            case measure => simp [RowKit.intOf]; omega
    · have hke : k = nw := by omega
      subst hke
      have q13 : ((k : Int) < (k : Int)) = False := eq_false (by omega)
      have hR2 := hR.out
      rw [HQ.out.2.2.2, List.take_length] at hR2
      have hth := HQ.out.2.2.1
      obtain ⟨Bt, bw, bi, hBt⟩ : ∃ zA wl is, takeH (freeAll A ws) t a ds = (zA, wl, is) := ⟨_, _, _, rfl⟩
      rw [hBt] at hth
      simp only at hth
      have htk := HTK.out (.slice ma nm mc) (freeAll A ws) wr hR2.2.now.1 (all_right _ HRT.out).sp (HFL.out ws) hR2.2.now.2.2
      have HT := Lib.hid (And.intro htk (And.intro hBt (And.intro hth hR2.1)))
      have KR := Lib.hid hR2.2
      obtain ⟨rfl, _⟩ := hth
      have hnm : nm ≤ 200 := by have := HFL.out ws; have := hR2.1; omega
      clear htk hBt hR2 hlt hk hR
      go_wp2_with fail
      refine HT.out.1.mono ?_
      intro e w9 hR
      obtain ⟨x9, c9, y9, d9, rfl, _, _⟩ := hR.sh
      rw [HT.out.2.1]
      simp only [List.length_nil]
      have K9 := Lib.hid (KR.out.later hR.fp)
      clear hR KR
      go_wp2_with fail
      go_loopw [21, 22] (fun b i wz => ∃ j : Nat, j ≤ nm ∧ i = .int .i64 j ∧ ∃ bb : Bool, b = .bool bb ∧ Hid (Flag bb (∃ x ∈ (freeAll A ws).take j, x.d ∈ ds ∧ x.t ≠ t) ∧ Fp Non w9 wz)) (fun _ i _ => nm - (RowKit.intOf i).toNat)
      case atStart => exact ⟨0, Nat.zero_le _, rfl, false, rfl, ⟨by simp⟩, Fp.refl _ _⟩
      case round =>
        obtain ⟨j, hj, rfl, bb, rfl, hB⟩ := hrel
        rename World => wz
        by_cases hlj : j < nm
        · have hjl : j < (freeAll A ws).length := by rw [← HT.out.2.2.2]; exact hlj
          obtain ⟨g2, o2, cap2, e, _, _, _, hcell2⟩ := (K9.out.later hB.out.2).now.1.at (by omega)
          rw [← HT.out.2.2.2] at e
          injection e with e1 e2 e3
          subst e1 e3
          have hnd := fun W (f : Fp Non wz W) => (hcell2 j hjl).keep f (fun h => h)
          have hts : (freeAll A ws).take (j + 1) = (freeAll A ws).take j ++ [(freeAll A ws)[j]] := List.take_succ_eq_append_getElem hjl
          obtain ⟨x, hx⟩ : ∃ x, x = (freeAll A ws)[j] := ⟨_, rfl⟩
          rw [← hx] at hnd hts
          clear hx hcell2 hjl
          obtain ⟨xd, xt, xa⟩ := x
          have p13 : ((j : Int) < (nm : Int)) = True := eq_true (by omega)
          have p14 : (j < nm) = True := eq_true hlj
          have HLj := Lib.hid (And.intro hlj (And.intro hts hnd))
          clear hlj hts hnd
          go_wp2_with fail
          go_loopw [21, 23] (fun b i wy => ∃ p : Nat, p ≤ m ∧ i = .int .i64 p ∧ ∃ bb : Bool, b = .bool bb ∧ Hid (Flag bb ((∃ x ∈ (freeAll A ws).take j, x.d ∈ ds ∧ x.t ≠ t) ∨ (xd ∈ ds.take p ∧ xt ≠ t)) ∧ Fp Non wz wy)) (fun _ i _ => m - (RowKit.intOf i).toNat)
          case atStart => exact ⟨0, Nat.zero_le _, rfl, bb, rfl, ⟨by rw [hB.out.1.iff]; simp⟩, Fp.refl _ _⟩
          case round =>
            obtain ⟨p, hp, rfl, b2, rfl, hC⟩ := hrel
            rename World => wy
            by_cases hlp : p < m
            · have hpl : p < ds.length := by rw [← HNN.out.2]; exact hlp
              obtain ⟨g3, o3, cap3, e, hcell3⟩ := HD.out.txs (by omega)
              rw [← HNN.out.2] at e
              injection e with e1 e2 e3
              subst e1 e3
              have hfz := (K9.out.now.2.2.then hB.out.2).then hC.out.2
              have d0 := hfz.cell (hcell3 p hpl) (fun h => h)
              have htp : ds.take (p + 1) = ds.take p ++ [ds[p]] := List.take_succ_eq_append_getElem hpl
              obtain ⟨s, hs⟩ : ∃ s, s = ds[p] := ⟨_, rfl⟩
              rw [← hs] at d0 htp
              clear hs hcell3 hpl
              have hnx := HLj.out.2.2 wy hC.out.2
              have x0 := hnx.c0; have x1 := hnx.c1
              unfold strV at x0
              simp only at x0 x1
              have r13 : ((p : Int) < (m : Int)) = True := eq_true (by omega)
              have r14 : (p < m) = True := eq_true hlp
              have r15 := HLj.out.1
              have r16 : (j < nm) = True := eq_true r15
              have r17 : ((j : Int) < (nm : Int)) = True := eq_true (by omega)
              have HLp := Lib.hid (And.intro hlp htp)
              clear hlp htp hnx hfz r15
              cases b2 with
              | true =>
                have hM : Hid (Flag true ((∃ x ∈ (freeAll A ws).take j, x.d ∈ ds ∧ x.t ≠ t) ∨ (xd ∈ ds.take (p + 1) ∧ xt ≠ t)) ∧ Fp Non wz wy) := ⟨⟨by
                  rw [HLp.out.2]
                  exact ⟨fun _ => (hC.out.1.iff.1 rfl).imp id (fun ⟨u2, u3⟩ => ⟨List.mem_append.2 (.inl u2), u3⟩), fun _ => rfl⟩
                ⟩, hC.out.2⟩
                have hkn := HLp.out.1
                skip
                go_wp2_with fail
                go_quiet (fail)
                go_wp2_with fail
                go_roundw
                case rel => exact ⟨p + 1, by omega, by go_num, true, rfl, hM.out.1, hM.out.2.drewN _⟩
                case measure => simp [RowKit.intOf]; omega
              | false =>
                by_cases h6 : xd = s
                · have h6a : (xd == s) = true := beq_iff_eq.2 h6
                  have h6b : (xd = s) = True := eq_true h6
                  have h6c : (xd != s) = false := by simp [h6]
                  by_cases h5 : xt = t
                  · have h5a : (xt == t) = true := beq_iff_eq.2 h5
                    have h5b : (xt = t) = True := eq_true h5
                    have h5c : (xt != t) = false := by simp [h5]
                    have hM : Hid (Flag false ((∃ x ∈ (freeAll A ws).take j, x.d ∈ ds ∧ x.t ≠ t) ∨ (xd ∈ ds.take (p + 1) ∧ xt ≠ t)) ∧ Fp Non wz wy) := ⟨⟨by
                      rw [HLp.out.2]
                      refine ⟨fun h => (Bool.noConfusion h), fun h => hC.out.1.iff.2 (h.imp id (fun ⟨u2, u3⟩ => ?_))⟩
                      exact absurd h5 u3
                    ⟩, hC.out.2⟩
                    have hkn := HLp.out.1
                    clear h5 h6
                    go_wp2_with fail
                    go_quiet (fail)
                    go_wp2_with fail
                    go_roundw
                    case rel => exact ⟨p + 1, by omega, by go_num, false, rfl, hM.out.1, hM.out.2.drewN _⟩
                    case measure => simp [RowKit.intOf]; omega
                  · have h5a : (xt == t) = false := beq_eq_false_iff_ne.2 h5
                    have h5b : (xt = t) = False := eq_false h5
                    have h5c : (xt != t) = true := by simp [h5]
                    have hM : Hid (Flag true ((∃ x ∈ (freeAll A ws).take j, x.d ∈ ds ∧ x.t ≠ t) ∨ (xd ∈ ds.take (p + 1) ∧ xt ≠ t)) ∧ Fp Non wz wy) := ⟨⟨by
                      rw [HLp.out.2]
                      exact ⟨fun _ => .inr ⟨List.mem_append.2 (.inr (List.mem_singleton.2 h6)), h5⟩, fun _ => rfl⟩
                    ⟩, hC.out.2⟩
                    have hkn := HLp.out.1
                    clear h5 h6
                    go_wp2_with fail
                    go_quiet (fail)
                    go_wp2_with fail
                    go_roundw
                    case rel => exact ⟨p + 1, by omega, by go_num, true, rfl, hM.out.1, hM.out.2.drewN _⟩
                    case measure => simp [RowKit.intOf]; omega
                · have h6a : (xd == s) = false := beq_eq_false_iff_ne.2 h6
                  have h6b : (xd = s) = False := eq_false h6
                  have h6c : (xd != s) = true := by simp [h6]
                  have hM : Hid (Flag false ((∃ x ∈ (freeAll A ws).take j, x.d ∈ ds ∧ x.t ≠ t) ∨ (xd ∈ ds.take (p + 1) ∧ xt ≠ t)) ∧ Fp Non wz wy) := ⟨⟨by
                    rw [HLp.out.2]
                    refine ⟨fun h => (Bool.noConfusion h), fun h => hC.out.1.iff.2 (h.imp id (fun ⟨u2, u3⟩ => ?_))⟩
                    refine ⟨?_, u3⟩
                    rcases List.mem_append.1 u2 with u2 | u2
                    · exact u2
                    · rw [List.mem_singleton] at u2; exact absurd u2 h6
                  ⟩, hC.out.2⟩
                  have hkn := HLp.out.1
                  clear h6
                  go_wp2_with fail
                  go_quiet (fail)
                  go_wp2_with fail
                  go_roundw
                  case rel => exact ⟨p + 1, by omega, by go_num, false, rfl, hM.out.1, hM.out.2.drewN _⟩
                  case measure => simp [RowKit.intOf]; omega
            · have hpe : p = m := by omega
              subst hpe
              have r13 : ((p : Int) < (p : Int)) = False := eq_false (by omega)
              have hM : Hid (Flag b2 (∃ x ∈ (freeAll A ws).take (j + 1), x.d ∈ ds ∧ x.t ≠ t) ∧ Fp Non w9 wy) := ⟨⟨by
                have h := hC.out.1.iff
                rw [HNN.out.2, List.take_length] at h
                rw [h, HLj.out.2.1]
                constructor
                · rintro (⟨x, h1, h2⟩ | ⟨h1, h2⟩)
                  · exact ⟨x, List.mem_append.2 (.inl h1), h2⟩
                  · exact ⟨_, List.mem_append.2 (.inr (List.mem_singleton.2 rfl)), h1, h2⟩
                · rintro ⟨x, h1, h2⟩
                  rcases List.mem_append.1 h1 with h1 | h1
                  · exact .inl ⟨x, h1, h2⟩
                  · rw [List.mem_singleton] at h1; subst h1; exact .inr h2⟩, hB.out.2.then hC.out.2⟩
              have hkn := HLj.out.1
              clear hlp hp
              go_wp2_with fail
              go_roundw
              case rel => exact ⟨j + 1, by omega, by go_num, b2, rfl, hM⟩
              case measure => simp [RowKit.intOf]; omega
        · have hje : j = nm := by omega
          subst hje
          have p13 : ((j : Int) < (j : Int)) = False := eq_false (by omega)
          have hbt : bb = !bi := by
            have h := hB.out.1.iff
            rw [HT.out.2.2.2, List.take_length] at h
            have h2 := HT.out.2.2.1.2
            rw [Bool.eq_iff_iff, h, Bool.not_eq_true', ← Bool.not_eq_true, h2]
            constructor
            · rintro ⟨x, h3, h4⟩ h5; exact h5 x h3 h4
            · intro h3
              exact Classical.byContradiction fun h4 => h3 fun x h5 h6 => h4 ⟨x, h5, h6⟩
          subst hbt
          have hfin := K9.out.now.2.2.then hB.out.2
          have HF := Lib.hid hfin
          clear hfin hlj hj hnm
          cases bi with
          | true =>
            simp only [Bool.not_true]
            go_wp2
            go_ret
            exact ⟨rfl, HF.out⟩
          | false =>
            simp only [Bool.not_false]
            go_wp2
            go_ret
            exact ⟨rfl, HF.out⟩
end Go.Proofs.YtenaggleepoclaaGreat
