/- LocksFree: what is let go is held by nobody, and can be taken; all else is held as it was (gen_ud.py) -/
import Derived.Test.YtenaggleepoclaaGreatJy
import Derived.Test.YtenaggleepoclaaGreatJv
namespace Go.Proofs.YtenaggleepoclaaGreat
set_option maxRecDepth 20000
set_option linter.unusedVariables false
set_option linter.unusedSimpArgs false
open Go.RowKit Pm


theorem gone_take (l : List Hl) (t : Int) (k : Nat) (h : k < l.length) : gone (l.take (k + 1)) t = gone (l.take k) t ++ (if l[k].t = t then [l[k].d] else []) := by
  unfold gone
  rw [List.take_succ_eq_append_getElem h, List.filter_append, List.map_append]
  congr 1
  by_cases c : l[k].t = t
  · rw [if_pos c, List.filter_cons_of_pos (by rw [decide_eq_true_eq]; exact c)]; rfl
  · rw [if_neg c, List.filter_cons_of_neg (by rw [decide_eq_true_eq]; exact c)]; rfl
/-- Has one of them this number? -/
structure Has (b : Bool) (k : Int) (l : List Hl) : Prop where
  iff : b = true ↔ ∃ x ∈ l, x.t = k

set_option maxHeartbeats 8000000 in
theorem lawLocksFree_c (v : Value) (l : List Hl) (t : Int) (w : World) (hv : NsH w v l) (hn : l.length ≤ 140737488355328) :
    Calls Tryz.prog 5 #[v, .int .i64 t] w fun e w' => e = .returned (.bool true) ∧ Fp Non w w' := by
  obtain ⟨ao, cap, rfl⟩ := hv.shape
  obtain ⟨n, hnn⟩ : ∃ n, n = l.length := ⟨_, rfl⟩
  have hgr := fun W (f : Fp Non w W) => great_c _ (.slice none 0 0) l [] W (hv.non f) (Sg.nil W) hn (by simp)
  have hrr := fun W (f : Fp Non w W) (h : HSp l) (k : l.length ≤ 90000) => rRight_c _ l W (hv.non f) h k
  rw [← hnn] at hv hgr hrr ⊢
  have HNN := Lib.hid (And.intro hnn trivial)
  have HV := Lib.hid hv
  have HG := Lib.hid hgr
  have HRR := Lib.hid hrr
  clear hgr hrr hv hn hnn 
  go_enter Tryz.func5, Tryz.ntmps5
  go_wp2_with fail
  refine (head_c _).mono ?_
  rintro e w1 ⟨rfl, hf1⟩
  have F1 := Lib.hid hf1
  clear hf1
  go_wp2_with fail
  refine (HG.out _ F1.out).mono ?_
  rintro e w2 ⟨gr, rfl, hg, hf2⟩
  have F2 := Lib.hid (F1.out.then hf2)
  clear hf2 F1
  cases gr with
  | true =>
    clear hg
    go_wp2
    go_ret
    exact ⟨rfl, F2.out⟩
  | false =>
  have FEW := Lib.hid (hg rfl)
  clear hg
  have hnb : n ≤ 200 := by have := FEW.out.nl; have := HNN.out.1; omega
  go_wp2_with fail
  refine (HRR.out _ F2.out FEW.out.hs (by have := HNN.out.1; omega)).mono ?_
  rintro e w3 ⟨rfl, hf3⟩
  have F3 := Lib.hid (F2.out.then hf3)
  clear hf3 F2
  cases hrt : rightH l with
  | false =>
    clear hrt
    go_wp2
    go_ret
    exact ⟨rfl, F3.out⟩
  | true =>
  have HRT := Lib.hid ((right_iff l).1 hrt)
  clear hrt
  have hfr := fun W (f : Fp Non w W) => Free_c _ l t W (HV.out.non f |> fun h => by rw [HNN.out.1] at h; exact h) FEW.out.hs (by have := FEW.out.nl; omega)
  rw [← HNN.out.1] at hfr
  have HFR := Lib.hid hfr
  clear hfr
  go_wp2_with fail
  refine (HFR.out _ F3.out).mono ?_
  rintro e w4 ⟨v4, rfl, hH⟩
  have n4 := hH.own.ns
  obtain ⟨x4, c4, rfl⟩ := n4.shape
  have F4 := Lib.hid (F3.out.then hH.fp)
  obtain ⟨na, hna⟩ : ∃ k, k = (freeH l t).length := ⟨_, rfl⟩
  have hrA := free_right t HRT.out
  have hle : (freeH l t).length ≤ l.length := List.length_filter_le _ _
  have hhe := fun p W (hW : NsH W (.slice x4 (freeH l t).length c4) (freeH l t)) => Held_c _ _ p W hW hrA.sp (by have := FEW.out.nl; omega)
  have hrr := fun W (hW : NsH W (.slice x4 (freeH l t).length c4) (freeH l t)) => rRight_c _ _ W hW hrA.sp (by have := FEW.out.nl; omega)
  rw [(right_iff _).2 hrA] at hrr
  rw [← hna] at n4 hhe hrr ⊢
  have HQ := Lib.hid (And.intro hrr (And.intro hhe (And.intro hna n4)))
  have hnab : na ≤ n := by rw [hna]; have := HNN.out.1; omega
  have H0 : Hid (OwS w4.heap.size w4 (.slice none 0 0) (gone (l.take 0) t) ∧ Fp Non w4 w4) := ⟨OwG.nil _ _, Fp.refl _ _⟩
  clear hH n4 hna hrA hle hhe hrr HFR F3
  go_wp2_with fail
  go_loopw [7, 8, 9] (fun z d i wr => ∃ k : Nat, k ≤ n ∧ i = .int .i64 k ∧ ∃ g : Nat, z = .int .i64 g ∧ g ≤ k ∧ Hid (OwS w4.heap.size wr d (gone (l.take k) t) ∧ Fp Non w4 wr ∧ g = (gone (l.take k) t).length)) (fun _ _ i _ => n - (RowKit.intOf i).toNat)
  case atStart => exact ⟨0, Nat.zero_le _, rfl, 0, rfl, Nat.le_refl _, H0.out.1, H0.out.2, rfl⟩
  case round =>
    clear H0
    obtain ⟨k, hk, rfl, g, rfl, hgk, hR⟩ := hrel
    rename_i wr _
    by_cases hlt : k < n
    · have hkl : k < l.length := by rw [← HNN.out.1]; exact hlt
      obtain ⟨g1, o1, cap', e, _, _, _, hcell⟩ := HV.out.at (by omega)
      rw [← HNN.out.1] at e
      injection e with e1 e2 e3
      subst e1 e3
      have hnd := fun W (f : Fp Non wr W) => (hcell k hkl).keep ((F4.out.then hR.out.2.1).then f) (fun h => h)
      have hst := gone_take l t k hkl
      have hfh := free_held HRT.out.up t (List.getElem_mem hkl)
      obtain ⟨x, hx⟩ : ∃ x, x = l[k] := ⟨_, rfl⟩
      rw [← hx] at hnd hst hfh
      clear hx hcell hkl
      obtain ⟨xd, xt, xa⟩ := x
      have c0 := (hnd wr (Fp.refl _ _)).c0
      unfold strV at c0
      simp only at c0 hst hfh
      have q3 : ((k : Int) < (n : Int)) = True := eq_true (by omega)
      have q4 : (k < n) = True := eq_true hlt
      have HS := Lib.hid (HQ.out.2.1 xd wr (HQ.out.2.2.2.non hR.out.2.1))
      have HL := Lib.hid (And.intro hlt (And.intro hst hnd))
      by_cases hxt : xt = t
      · rw [hfh, if_pos hxt] at HS
        rw [if_pos hxt] at hst
        simp only [Option.map_none, Option.getD_none, Option.isSome_none] at HS
        have HST := Lib.hid hst
        have r1 : (xt != t) = false := by simp [hxt]
        have r2 : (xt == t) = true := beq_iff_eq.2 hxt
        have r3 : (xt = t) = True := eq_true hxt
        clear hst hfh hlt hnd hxt
        go_wp2_with fail
        refine HS.out.mono ?_
        rintro e w5 ⟨rfl, hf⟩
        have hn5 := HL.out.2.2 w5 hf
        have y0 := hn5.c0; have y1 := hn5.c1; have y2 := hn5.c2
        unfold strV at y0
        simp only at y0 y1 y2
        have hap := app_oneS w5 w4.heap.size u8 _ xd TLS (hR.out.1.non hf) (by rw [← hR.out.2.2]; omega) (hR.out.2.1.then hf).size
        have hlo := (hR.out.1.non hf).lt
        have HA := Lib.hid (And.intro hap (And.intro hlo (hR.out.2.1.then hf)))
        clear hap hlo hf hn5 c0
        go_wp2_with (at_builtin; go_must (refine wpList_app rfl _ _ _ _ rfl _ _ rfl rfl _ HA.out.1 ?_))
        intro v6 w6 hS
        have hM : Hid (OwS w4.heap.size w6 v6 (gone (l.take (k + 1)) t) ∧ Fp Non w4 w6 ∧ g + 1 = (gone (l.take (k + 1)) t).length) := ⟨by rw [HST.out]; exact hS.own, HA.out.2.2.trans hS.fp (fun j hj => .inr (HA.out.2.1 j hj).1), by rw [HST.out, List.length_append, ← hR.out.2.2]; rfl⟩
        have hkn := HL.out.1
        clear hS
        go_wp2
        go_roundw
        case rel => exact ⟨k + 1, by omega, by go_num, g + 1, by go_num, by omega, hM⟩
        case measure => simp [RowKit.intOf]; omega
      · rw [hfh, if_neg hxt] at HS
        rw [if_neg hxt, List.append_nil] at hst
        simp only [Option.map_some, Option.getD_some, Option.isSome_some] at HS
        have HST := Lib.hid hst
        have r1 : (xt != t) = true := by simp [hxt]
        have r2 : (xt == t) = false := beq_eq_false_iff_ne.2 hxt
        have r3 : (xt = t) = False := eq_false hxt
        clear hst hfh hlt hnd hxt
        go_wp2_with fail
        refine HS.out.mono ?_
        rintro e w5 ⟨rfl, hf⟩
        have hn5 := HL.out.2.2 w5 hf
        have y0 := hn5.c0; have y1 := hn5.c1; have y2 := hn5.c2
        unfold strV at y0
        simp only at y0 y1 y2
        have hM : Hid (OwS w4.heap.size w5 u8 (gone (l.take (k + 1)) t) ∧ Fp Non w4 w5 ∧ g = (gone (l.take (k + 1)) t).length) := ⟨by rw [HST.out]; exact hR.out.1.non hf, hR.out.2.1.then hf, by rw [HST.out]; exact hR.out.2.2⟩
        have hkn := HL.out.1
        clear hf hn5 c0
        go_wp2
        go_roundw
        case rel => exact ⟨k + 1, by omega, by go_num, g, rfl, by omega, hM⟩
        case measure => simp [RowKit.intOf]; omega
    · have hke : k = n := by omega
      subst hke
      have q3 : ((k : Int) < (k : Int)) = False := eq_false (by omega)
      have hO := hR.out
      rw [HNN.out.1, List.take_length] at hO
      have hfl := free_len l t
      have hgn : na + g = k := by rw [HQ.out.2.2.1, hO.2.2, HNN.out.1]; exact hfl
      have q4 : (k : Int) - (g : Int) = (na : Int) := by omega
      have q5 : IntKind.i64.wrap ((k : Int) - (g : Int)) = (na : Int) := by rw [IntKind.wrap_i64]; omega
      have q6 : IntKind.i64.wrap (na : Int) = (na : Int) := by rw [IntKind.wrap_i64]; omega
      have ht := OwG.sg txC_len hO.1
      obtain ⟨dx, dc, rfl⟩ : ∃ a c, u8 = .slice a (gone l t).length c := ht.shape
      rw [← hO.2.2] at ht ⊢
      have K5 := Lib.hid (Kp.and (Kp.nsH (HQ.out.2.2.2.non hO.2.1)) (Kp.and (Kp.tx ht) (Kp.fp (F4.out.then hO.2.1))))
      have HGG := Lib.hid hO.2.2
      clear hlt hk hO hfl ht hR hgn hgk
      go_wp2_with fail
      refine (HQ.out.1 _ K5.out.now.1).mono ?_
      rintro e w6 ⟨rfl, hf⟩
      have K6 := Lib.hid (K5.out.later hf)
      clear hf K5
      go_wp2_with fail
      go_loopw [12] (fun i wr => ∃ q : Nat, q ≤ 201 ∧ i = .int .i64 q ∧ Hid (Kp (fun W' => NsH W' (.slice x4 na c4) (freeH l t) ∧ Tx W' (.slice dx g dc) (gone l t) ∧ Fp Non w W') wr ∧ ∀ j : Nat, j < q → ∃ x ∈ freeH l t, x.t = (j : Int))) (fun i _ => 201 - (RowKit.intOf i).toNat)
      case atStart => exact ⟨0, Nat.zero_le _, rfl, K6.out, fun j hj => absurd hj (Nat.not_lt_zero j)⟩
      case round =>
        clear K6
        obtain ⟨q, hq, rfl, hR⟩ := hrel
        rename World => wq
        by_cases hq2 : q ≤ 200
        · have q13 : ((q : Int) ≤ 200) = True := eq_true (by omega)
          have q14 : (q ≤ 200) = True := eq_true hq2
          have K7 := Lib.hid hR.out
          clear hR
          go_wp2_with fail
          go_loopw [13, 14] (fun b i wz => ∃ p : Nat, p ≤ na ∧ i = .int .i64 p ∧ ∃ bb : Bool, b = .bool bb ∧ Hid (Has bb (q : Int) ((freeH l t).take p) ∧ Fp Non wq wz)) (fun _ i _ => na - (RowKit.intOf i).toNat)
          case atStart => exact ⟨0, Nat.zero_le _, rfl, false, rfl, ⟨by simp⟩, Fp.refl _ _⟩
          case round =>
            obtain ⟨p, hp, rfl, bb, rfl, hB⟩ := hrel
            rename World => wz
            by_cases hlp : p < na
            · have hpl : p < (freeH l t).length := by rw [← HQ.out.2.2.1]; exact hlp
              obtain ⟨g2, o2, cap2, e, _, _, _, hcell⟩ := (K7.out.1.later hB.out.2).now.1.at (by omega)
              rw [← HQ.out.2.2.1] at e
              injection e with e1 e2 e3
              subst e1 e3
              have hnd := hcell p hpl
              have hts : (freeH l t).take (p + 1) = (freeH l t).take p ++ [(freeH l t)[p]] := List.take_succ_eq_append_getElem hpl
              obtain ⟨x, hx⟩ : ∃ x, x = (freeH l t)[p] := ⟨_, rfl⟩
              rw [← hx] at hnd hts
              clear hx hcell hpl
              obtain ⟨xd, xt, xa⟩ := x
              have y1 := hnd.c1
              simp only at y1
              have p13 : ((p : Int) < (na : Int)) = True := eq_true (by omega)
              have p14 : (p < na) = True := eq_true hlp
              have HLp := Lib.hid (And.intro hlp hts)
              clear hlp hts hnd
              cases bb with
              | true =>
                have hM : Hid (Has true (q : Int) ((freeH l t).take (p + 1)) ∧ Fp Non wq wz) := ⟨⟨by
                  rw [HLp.out.2]
                  obtain ⟨x, hx, e⟩ := hB.out.1.iff.1 rfl
                  exact ⟨fun _ => ⟨x, List.mem_append.2 (.inl hx), e⟩, fun _ => rfl⟩⟩, hB.out.2⟩
                have hkn := HLp.out.1
                go_wp2_with fail
                try go_quiet (fail)
                go_wp2_with fail
                go_roundw
                case rel => exact ⟨p + 1, by omega, by go_num, true, rfl, hM.out.1, by first | exact hM.out.2 | exact hM.out.2.drew | exact hM.out.2.drewN _⟩
                case measure => simp [RowKit.intOf]; omega
              | false =>
                by_cases hpe : xt = (q : Int)
                · have r1 : (xt == (q : Int)) = true := beq_iff_eq.2 hpe
                  have r2 : (xt = (q : Int)) = True := eq_true hpe
                  have hM : Hid (Has true (q : Int) ((freeH l t).take (p + 1)) ∧ Fp Non wq wz) := ⟨⟨by
                    rw [HLp.out.2]
                    exact ⟨fun _ => ⟨_, List.mem_append.2 (.inr (List.mem_singleton.2 rfl)), hpe⟩, fun _ => rfl⟩⟩, hB.out.2⟩
                  have hkn := HLp.out.1
                  clear hpe
                  go_wp2_with fail
                  try go_quiet (fail)
                  go_wp2_with fail
                  go_roundw
                  case rel => exact ⟨p + 1, by omega, by go_num, true, rfl, hM.out.1, by first | exact hM.out.2 | exact hM.out.2.drew | exact hM.out.2.drewN _⟩
                  case measure => simp [RowKit.intOf]; omega
                · have r1 : (xt == (q : Int)) = false := beq_eq_false_iff_ne.2 hpe
                  have r2 : (xt = (q : Int)) = False := eq_false hpe
                  have hM : Hid (Has false (q : Int) ((freeH l t).take (p + 1)) ∧ Fp Non wq wz) := ⟨⟨by
                    rw [HLp.out.2]
                    refine ⟨fun h => (Bool.noConfusion h), fun ⟨x, hx, e⟩ => ?_⟩
                    rcases List.mem_append.1 hx with h | h
                    · exact hB.out.1.iff.2 ⟨x, h, e⟩
                    · rw [List.mem_singleton] at h; subst h; exact absurd e hpe⟩, hB.out.2⟩
                  have hkn := HLp.out.1
                  clear hpe
                  go_wp2_with fail
                  try go_quiet (fail)
                  go_wp2_with fail
                  go_roundw
                  case rel => exact ⟨p + 1, by omega, by go_num, false, rfl, hM.out.1, by first | exact hM.out.2 | exact hM.out.2.drew | exact hM.out.2.drewN _⟩
                  case measure => simp [RowKit.intOf]; omega
            · have hpe : p = na := by omega
              subst hpe
              have p13 : ((p : Int) < (p : Int)) = False := eq_false (by omega)
              have hbb : bb = true ↔ ∃ x ∈ freeH l t, x.t = (q : Int) := by have := hB.out.1.iff; rw [HQ.out.2.2.1, List.take_length] at this; exact this
              have K8 := Lib.hid (K7.out.1.later hB.out.2)
              cases bb with
              | true =>
                have hM : Hid (Kp (fun W' => NsH W' (.slice x4 p c4) (freeH l t) ∧ Tx W' (.slice dx g dc) (gone l t) ∧ Fp Non w W') wz ∧ ∀ j : Nat, j < q + 1 → ∃ x ∈ freeH l t, x.t = (j : Int)) := ⟨K8.out, fun j hj => by
                  rcases Nat.lt_or_eq_of_le (show j ≤ q by omega) with e | e
                  · exact K7.out.2 j e
                  · subst e; exact hbb.1 rfl⟩
                clear hbb hp hlp
                go_wp2
                go_roundw
                case rel => exact ⟨q + 1, by omega, by go_num, hM⟩
                case measure => simp [RowKit.intOf]; omega
              | false =>
                have hno : ∀ x ∈ freeH l t, x.t ≠ (q : Int) := fun x hx e => by have := hbb.2 ⟨x, hx, e⟩; cases this
                obtain ⟨Bl, hTk, hBl⟩ := free_take HRT.out t (q : Int) (by unfold isN mxN; rw [decide_eq_true_eq]; omega) hno
                have hgs : SSp (gone l t) := fun y hy => by
                  obtain ⟨x, hx, _, rfl⟩ := mem_gone.1 hy
                  exact FEW.out.hs x hx
                have htk := Take_c _ _ (freeH l t) (q : Int) 1 (gone l t) wz (K8.out.now.1 |> fun h => by rw [HQ.out.2.2.1] at h; exact h) (free_right t HRT.out).sp (K8.out.now.2.1 |> fun h => by rw [HGG.out] at h; exact h) hgs (by rw [← HQ.out.2.2.1]; omega) (by have := free_len l t; have := FEW.out.nl; omega)
                rw [← HQ.out.2.2.1, ← HGG.out] at htk
                have HT := Lib.hid (And.intro htk (And.intro hTk hBl))
                clear htk hTk hBl hgs hno hbb hp hlp
                go_wp2_with fail
                refine HT.out.1.mono ?_
                intro e w9 hR
                obtain ⟨x9, c9, y9, d9, rfl, _, _⟩ := hR.sh
                have F9 := Lib.hid (K8.out.now.2.2.then hR.fp)
                rw [HT.out.2.1]
                simp only
                rw [HT.out.2.2, ← HNN.out.1]
                clear hR
                go_wp2
                go_ret
                exact ⟨rfl, F9.out⟩
        · have hqe : q = 201 := by omega
          subst hqe
          exact absurd (fun j (hj : j ≤ 200) => hR.out.2 j (by omega)) (fun h => some_free (by rw [← HQ.out.2.2.1]; omega) h)
end Go.Proofs.YtenaggleepoclaaGreat
