/- LocksOne: who takes directories holds all of them, and what it held, and all others what they held; who does not holds nothing more (gen_ua.py) -/
import Derived.Test.YtenaggleepoclaaGreatJy
import Derived.Test.YtenaggleepoclaaGreatJv
import Derived.Test.YtenaggleepoclaaGreatUb
namespace Go.Proofs.YtenaggleepoclaaGreat
set_option maxRecDepth 20000
set_option linter.unusedVariables false
set_option linter.unusedSimpArgs false
open Go.RowKit Pm


/-- Is it among these? -/
structure Ask (b : Bool) (p : Bs) (ds : List Bs) : Prop where
  iff : b = true ↔ p ∈ ds

set_option maxHeartbeats 8000000 in
theorem lawLocksOne_c (v : Value) (l : List Hl) (t a : Int) (vd : Value) (ds : List Bs) (w : World) (hv : NsH w v l) (hn : l.length ≤ 140737488355328) (hd : Tx w vd ds) (hm : ds.length ≤ 140737488355328) :
    Calls Tryz.prog 4 #[v, .int .i64 t, .int .i64 a, vd] w fun e w' => e = .returned (.bool true) ∧ Fp Non w w' := by
  obtain ⟨ao, cap, rfl⟩ := hv.shape
  obtain ⟨ad, cd, rfl⟩ := hd.shape
  obtain ⟨n, hnn⟩ : ∃ n, n = l.length := ⟨_, rfl⟩
  obtain ⟨m, hmm⟩ : ∃ m, m = ds.length := ⟨_, rfl⟩
  have hgr := fun W (f : Fp Non w W) => great_c _ _ l ds W (hv.non f) (hd.non f) hn hm
  have hrr := fun W (f : Fp Non w W) (h : HSp l) (k : l.length ≤ 90000) => rRight_c _ l W (hv.non f) h k
  rw [← hnn] at hv hgr hrr ⊢
  rw [← hmm] at hd hgr ⊢
  have HNN := Lib.hid (And.intro hnn hmm)
  have HV := Lib.hid hv
  have HD := Lib.hid hd
  have HG := Lib.hid hgr
  have HRR := Lib.hid hrr
  clear hgr hrr hv hn hnn hd hm hmm
  go_enter Tryz.func4, Tryz.ntmps4
  go_wp2_with fail
  refine (head_c _).mono ?_
  rintro e w1 ⟨rfl, hf1⟩
  have F1 := Lib.hid hf1
  clear hf1
  go_wp2_with fail
  refine (HG.out _ F1.out).mono ?_
  rintro e w2 ⟨gr, rfl, hg, hf2⟩
  have F2 := Lib.hid (F1.out.then hf2)
  clear hf2 F1
  cases gr with
  | true =>
    clear hg
    go_wp2
    go_ret
    exact ⟨rfl, F2.out⟩
  | false =>
  have FEW := Lib.hid (hg rfl)
  clear hg
  have hnb : n ≤ 200 := by have := FEW.out.nl; have := HNN.out.1; omega
  have hmb : m ≤ 200 := by have := FEW.out.nd; have := HNN.out.2; omega
  go_wp2_with fail
  refine (HRR.out _ F2.out FEW.out.hs (by have := HNN.out.1; omega)).mono ?_
  rintro e w3 ⟨rfl, hf3⟩
  have F3 := Lib.hid (F2.out.then hf3)
  clear hf3 F2
  cases hrt : rightH l with
  | false =>
    clear hrt
    go_wp2
    go_ret
    exact ⟨rfl, F3.out⟩
  | true =>
  have HRT := Lib.hid ((right_iff l).1 hrt)
  clear hrt
  obtain ⟨A, wl, is, hA⟩ : ∃ A wl is, takeH l t a ds = (A, wl, is) := ⟨_, _, _, rfl⟩
  have htk := fun W (f : Fp Non w W) => Take_c _ _ l t a ds W (HV.out.non f |> fun h => by rw [HNN.out.1] at h; exact h) FEW.out.hs (HD.out.non f |> fun h => by rw [HNN.out.2] at h; exact h) FEW.out.ss (by have := FEW.out.nl; omega) (by have := FEW.out.nd; omega)
  rw [← HNN.out.1, ← HNN.out.2] at htk
  have HTK := Lib.hid htk
  clear htk
  go_wp2_with fail
  refine (HTK.out _ F3.out).mono ?_
  intro e w4 hR
  obtain ⟨x4, c4, y4, d4, rfl, n4, m4⟩ := hR.sh
  rw [hA] at n4 m4 ⊢
  simp only at n4 m4 ⊢
  have K4 := Lib.hid (Kp.and (Kp.nsH n4) (Kp.fp (F3.out.then hR.fp)))
  clear hR n4 m4 HTK F3
  cases is with
  | false =>
    rcases take_no hA with ⟨rfl, rfl⟩ | ⟨rfl, hwl, _, _, _⟩
    · clear hA
      simp only [List.length_nil]
      go_wp2
      go_ret
      exact ⟨rfl, K4.out.now.2⟩
    · have hsm := fun W (f : Fp Non w W) (h : NsH W (.slice x4 n c4) A) => rSameH_c _ _ A A W h (HV.out.non f) (by have := HNN.out.1; omega) (by have := HNN.out.1; omega)
      rw [← HNN.out.1] at K4 ⊢
      have HSM := Lib.hid hsm
      clear hA hwl hsm
      by_cases hn0 : n = 0
      · have q1 : ((n : Int) == 0) = true := beq_iff_eq.2 (by omega)
        have q2 : ((n : Int) = 0) = True := eq_true (by omega)
        have q3 : (n == 0) = true := beq_iff_eq.2 hn0
        have q4 : (n = 0) = True := eq_true hn0
        clear hn0
        go_wp2
        go_ret
        exact ⟨rfl, K4.out.now.2⟩
      · have q1 : ((n : Int) == 0) = false := beq_eq_false_iff_ne.2 (by omega)
        have q2 : ((n : Int) = 0) = False := eq_false (by omega)
        have q3 : (n == 0) = false := beq_eq_false_iff_ne.2 hn0
        have q4 : (n = 0) = False := eq_false hn0
        clear hn0
        go_wp2_with fail
        refine (HSM.out _ K4.out.now.2 K4.out.now.1).mono ?_
        rintro e w5 ⟨rfl, hf⟩
        have HF := Lib.hid (K4.out.now.2.then hf)
        clear hf
        simp only [decide_true]
        go_wp2
        go_ret
        exact ⟨rfl, HF.out⟩
  | true =>
  obtain ⟨_, hmay, hway, hAp, hwl⟩ := take_yes hA
  subst hwl
  have ho := own_of hmay hway
  have hrA : RtH A := by rw [hAp]; exact puts_right HRT.out hmay hway
  have hlen : l.length ≤ A.length := by rw [hAp]; exact puts_len HRT.out.up ho
  have hal : A.length ≤ 400 := by
    have h1 : (A.map Hl.d).length ≤ (l.map Hl.d ++ ds).length := sub_len ((map_up hrA.up).imp (fun h => lt_ne h)) (fun x hx => by
      obtain ⟨y, hy, rfl⟩ := List.mem_map.1 hx
      rw [hAp, mem_puts ho] at hy
      rcases hy with hy | ⟨hy, _⟩
      · exact List.mem_append.2 (.inl (List.mem_map.2 ⟨y, hy, rfl⟩))
      · exact List.mem_append.2 (.inr hy))
    rw [List.length_map, List.length_append, List.length_map] at h1
    have := FEW.out.nl; have := FEW.out.nd; omega
  have hone : ∀ p ∈ ds, heldH A p = some ⟨p, t, a⟩ := fun p hp => by rw [hAp]; exact one_dir HRT.out.up ho hp
  have hall : ∀ x ∈ A, (∃ y, heldH l x.d = some y ∧ y.t = x.t) ∨ (heldH l x.d = none ∧ x.d ∈ ds ∧ x.t = t ∧ x.a = a) := fun x hx => by rw [hAp] at hx; exact one_all HRT.out.up ho hx
  obtain ⟨na, hna⟩ : ∃ k, k = A.length := ⟨_, rfl⟩
  have hrr := fun W (hW : NsH W (.slice x4 A.length c4) A) => rRight_c _ A W hW hrA.sp (by omega)
  rw [(right_iff A).2 hrA] at hrr
  have hhe := fun p W (hW : NsH W (.slice x4 A.length c4) A) => Held_c _ A p W hW hrA.sp (by omega)
  have hhl := fun p W (f : Fp Non w W) => Held_c _ l p W (HV.out.non f |> fun h => by rw [HNN.out.1] at h; exact h) FEW.out.hs (by have := FEW.out.nl; omega)
  rw [← HNN.out.1] at hhl
  have HQ := Lib.hid (And.intro hrr (And.intro hhe (And.intro hhl (And.intro hone hall))))
  have HNA := Lib.hid (And.intro hna (And.intro hal hlen))
  rw [← hna] at K4 HQ ⊢
  simp only [List.length_nil]
  clear hrr hhe hhl hone hall hna hal hlen hrA ho hAp hway hmay
  have hnab : na ≤ 400 ∧ n ≤ na := by have := HNA.out; have := HNN.out.1; omega
  go_wp2_with fail
  refine (HQ.out.1 _ K4.out.now.1).mono ?_
  rintro e w5 ⟨rfl, hf⟩
  have K5 := Lib.hid (K4.out.later hf)
  clear hf K4
  go_wp2_with fail
  go_loopw [13] (fun i wr => ∃ k : Nat, k ≤ m ∧ i = .int .i64 k ∧ Hid (Kp (fun W' => NsH W' (.slice x4 na c4) A ∧ Fp Non w W') wr)) (fun i _ => m - (RowKit.intOf i).toNat)
  case atStart => exact ⟨0, Nat.zero_le _, rfl, K5.out⟩
  case round =>
    clear K5
    obtain ⟨k, hk, rfl, hR⟩ := hrel
    rename_i wr _
    by_cases hlt : k < m
    · have hkl : k < ds.length := by rw [← HNN.out.2]; exact hlt
      obtain ⟨g, o, cap', e, hcell⟩ := HD.out.txs (by omega)
      rw [← HNN.out.2] at e
      injection e with e1 e2 e3
      subst e1 e3
      have c0 := hR.out.now.2.cell (hcell k hkl) (fun h => h)
      have hon := HQ.out.2.2.2.1 ds[k] (List.getElem_mem hkl)
      obtain ⟨p, hp⟩ : ∃ p, p = ds[k] := ⟨_, rfl⟩
      rw [← hp] at c0 hon
      clear hp hcell hkl
      have q3 : ((k : Int) < (m : Int)) = True := eq_true (by omega)
      have q4 : (k < m) = True := eq_true hlt
      have HS := Lib.hid (HQ.out.2.1 p wr hR.out.now.1)
      rw [hon] at HS
      simp only [Option.map_some, Option.getD_some, Option.isSome_some] at HS
      have HL := Lib.hid hlt
      clear hon hlt
      go_wp2_with fail
      refine HS.out.mono ?_
      rintro e w6 ⟨rfl, hf⟩
      have hM := Lib.hid (hR.out.later hf)
      have hkn := HL.out
      clear hf
      go_wp2
      go_roundw
      case rel => exact ⟨k + 1, by omega, by go_num, hM⟩
      case measure => simp [RowKit.intOf]; omega
    · have hke : k = m := by omega
      subst hke
      have q3 : ((k : Int) < (k : Int)) = False := eq_false (by omega)
      have K6 := Lib.hid hR.out
      clear hlt hk hR
      go_wp2_with fail
      go_loopw [16] (fun i wr => ∃ j : Nat, j ≤ na ∧ i = .int .i64 j ∧ Hid (Kp (fun W' => NsH W' (.slice x4 na c4) A ∧ Fp Non w W') wr)) (fun i _ => na - (RowKit.intOf i).toNat)
      case atStart => exact ⟨0, Nat.zero_le _, rfl, K6.out⟩
      case round =>
        clear K6
        obtain ⟨j, hj, rfl, hR⟩ := hrel
        rename World => wq
        by_cases hlt : j < na
        · have hjl : j < A.length := by rw [← HNA.out.1]; exact hlt
          obtain ⟨g, o, cap', e, _, _, _, hcell⟩ := hR.out.now.1.at (by omega)
          rw [← HNA.out.1] at e
          injection e with e1 e2 e3
          subst e1 e3
          have hnd := fun W (f : Fp Non wq W) => (hcell j hjl).keep f (fun h => h)
          have hall := HQ.out.2.2.2.2 A[j] (List.getElem_mem hjl)
          obtain ⟨x, hx⟩ : ∃ x, x = A[j] := ⟨_, rfl⟩
          rw [← hx] at hnd hall
          clear hx hcell hjl
          obtain ⟨xd, xt, xa⟩ := x
          have c0 := (hnd wq (Fp.refl _ _)).c0
          unfold strV at c0
          simp only at c0 hall
          have q3 : ((j : Int) < (na : Int)) = True := eq_true (by omega)
          have q4 : (j < na) = True := eq_true hlt
          have HS := Lib.hid (HQ.out.2.2.1 xd wq hR.out.now.2)
          have HL := Lib.hid (And.intro hlt (And.intro hall hnd))
          clear hall hlt hnd
          obtain ⟨hv1, hh1⟩ : ∃ z, ((heldH l xd).map Hl.t).getD 0 = z := ⟨_, rfl⟩
          obtain ⟨hv2, hh2⟩ : ∃ z, (heldH l xd).isSome = z := ⟨_, rfl⟩
          rw [hh1, hh2] at HS
          have HH := Lib.hid (And.intro hh1 hh2)
          clear hh1 hh2
          go_wp2_with fail
          refine HS.out.mono ?_
          rintro e w7 ⟨rfl, hf⟩
          have K7 := Lib.hid (hR.out.later hf)
          have F7 := Lib.hid hf
          clear hf hR HS c0
          go_wp2_with fail
          go_loopw [19, 20] (fun b i wz => ∃ qq : Nat, qq ≤ k ∧ i = .int .i64 qq ∧ ∃ bb : Bool, b = .bool bb ∧ Hid (Ask bb xd (ds.take qq) ∧ Fp Non w7 wz)) (fun _ i _ => k - (RowKit.intOf i).toNat)
          case atStart => exact ⟨0, Nat.zero_le _, rfl, false, rfl, ⟨⟨by simp⟩, Fp.refl _ _⟩⟩
          case round =>
            obtain ⟨q, hq, rfl, bb, rfl, hB⟩ := hrel
            rename World => wz
            by_cases hlq : q < k
            · have hql : q < ds.length := by rw [← HNN.out.2]; exact hlq
              obtain ⟨g2, o2, cap2, e, hcell⟩ := HD.out.txs (by omega)
              rw [← HNN.out.2] at e
              injection e with e1 e2 e3
              subst e1 e3
              have d0 := (K7.out.now.2.then hB.out.2).cell (hcell q hql) (fun h => h)
              have hts : ds.take (q + 1) = ds.take q ++ [ds[q]] := List.take_succ_eq_append_getElem hql
              obtain ⟨p, hp⟩ : ∃ p, p = ds[q] := ⟨_, rfl⟩
              rw [← hp] at d0 hts
              clear hp hcell hql
              have x0 := (HL.out.2.2 wz (F7.out.then hB.out.2)).c0
              unfold strV at x0
              simp only at x0
              have q13 : ((q : Int) < (k : Int)) = True := eq_true (by omega)
              have q14 : (q < k) = True := eq_true hlq
              have HLq := Lib.hid (And.intro hlq hts)
              clear hlq hts
              cases bb with
              | true =>
                have hM : Hid (Ask true xd (ds.take (q + 1)) ∧ Fp Non w7 wz) := ⟨⟨by rw [HLq.out.2]; exact ⟨fun _ => List.mem_append.2 (.inl (hB.out.1.iff.1 rfl)), fun _ => rfl⟩⟩, hB.out.2⟩
                have hkn := HLq.out.1
                go_wp2_with fail
                go_quiet (fail)
                go_wp2_with fail
                go_roundw
                case rel => exact ⟨q + 1, by omega, by go_num, true, rfl, hM.out.1, hM.out.2.drewN _⟩
                case measure => simp [RowKit.intOf]; omega
              | false =>
                by_cases hpe : p = xd
                · have r1 : (p == xd) = true := beq_iff_eq.2 hpe
                  have r2 : (p = xd) = True := eq_true hpe
                  have hM : Hid (Ask true xd (ds.take (q + 1)) ∧ Fp Non w7 wz) := ⟨⟨by rw [HLq.out.2]; exact ⟨fun _ => List.mem_append.2 (.inr (by simp [hpe])), fun _ => rfl⟩⟩, hB.out.2⟩
                  have hkn := HLq.out.1
                  clear hpe
                  go_wp2_with fail
                  go_quiet (fail)
                  go_wp2_with fail
                  go_roundw
                  case rel => exact ⟨q + 1, by omega, by go_num, true, rfl, hM.out.1, hM.out.2.drewN _⟩
                  case measure => simp [RowKit.intOf]; omega
                · have r1 : (p == xd) = false := beq_eq_false_iff_ne.2 hpe
                  have r2 : (p = xd) = False := eq_false hpe
                  have hM : Hid (Ask false xd (ds.take (q + 1)) ∧ Fp Non w7 wz) := ⟨⟨by
                    rw [HLq.out.2]
                    refine ⟨fun h => (Bool.noConfusion h), fun h => ?_⟩
                    rcases List.mem_append.1 h with h | h
                    · exact hB.out.1.iff.2 h
                    · rw [List.mem_singleton] at h; exact absurd h.symm hpe⟩, hB.out.2⟩
                  have hkn := HLq.out.1
                  clear hpe
                  go_wp2_with fail
                  go_quiet (fail)
                  go_wp2_with fail
                  go_roundw
                  case rel => exact ⟨q + 1, by omega, by go_num, false, rfl, hM.out.1, hM.out.2.drewN _⟩
                  case measure => simp [RowKit.intOf]; omega
            · have hqe : q = k := by omega
              subst hqe
              have q13 : ((q : Int) < (q : Int)) = False := eq_false (by omega)
              have hnd := HL.out.2.2 wz (F7.out.then hB.out.2)
              have x0 := hnd.c0; have x1 := hnd.c1; have x2 := hnd.c2
              unfold strV at x0
              simp only at x0 x1 x2
              have hbb : bb = true ↔ xd ∈ ds := by have := hB.out.1.iff; rw [HNN.out.2, List.take_length] at this; exact this
              have K8 := Lib.hid (K7.out.later hB.out.2)
              have HLj := Lib.hid HL.out.1
              rcases HL.out.2.1 with ⟨y, hy1, hy2⟩ | ⟨hy1, hy2, hy3, hy4⟩
              · have e1 : hv1 = xt := by rw [← HH.out.1, hy1]; exact hy2
                have e2 : hv2 = true := by rw [← HH.out.2, hy1]; rfl
                have hkn := HLj.out
                subst e1 e2
                clear hy1 hy2 hbb hnd hlq hq HL HH
                go_wp2
                go_roundw
                case rel => exact ⟨j + 1, by omega, by go_num, K8.out⟩
                case measure => simp [RowKit.intOf]; omega
              · have e2 : hv2 = false := by rw [← HH.out.2, hy1]; rfl
                have e3 : bb = true := hbb.2 hy2
                have hkn := HLj.out
                subst e2 e3 hy3 hy4
                clear hy1 hy2 hbb hnd hlq hq HL HH
                go_wp2
                go_roundw
                case rel => exact ⟨j + 1, by omega, by go_num, K8.out⟩
                case measure => simp [RowKit.intOf]; omega
        · have hje : j = na := by omega
          subst hje
          have q3 : ((j : Int) < (j : Int)) = False := eq_false (by omega)
          have q4 : ((n : Int) ≤ (j : Int)) = True := eq_true (by omega)
          have q5 : (n ≤ j) = True := eq_true (by omega)
          clear hlt hj
          go_wp2
          go_ret
          exact ⟨rfl, hR.out.now.2⟩
end Go.Proofs.YtenaggleepoclaaGreat
