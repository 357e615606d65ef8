/- LocksTell: all answers are the document's (gen_uf.py) -/
import Derived.Test.YtenaggleepoclaaGreatKe
namespace Go.Proofs.YtenaggleepoclaaGreat
set_option maxRecDepth 20000
set_option linter.unusedVariables false
set_option linter.unusedSimpArgs false
open Go.RowKit Pm


set_option maxHeartbeats 8000000 in
theorem lawLocksTell_c (v : Value) (l : List Hl) (t a : Int) (vd : Value) (ds : List Bs) (vp : Value) (p : List Pc) (w : World) (hv : NsH w v l) (hn : l.length ≤ 140737488355328) (hd : Tx w vd ds) (hm : ds.length ≤ 140737488355328) (hp : Sg pcC 8 w vp p) (hpn : p.length ≤ 140737488355328) :
    Calls Tryz.prog 3 #[v, .int .i64 t, .int .i64 a, vd, vp] w fun e w' => e = .returned (.bool true) ∧ Fp Non w w' := by
  obtain ⟨ao, cap, rfl⟩ := hv.shape
  obtain ⟨ad, cd, rfl⟩ := hd.shape
  obtain ⟨ap, cp, rfl⟩ := hp.shape
  obtain ⟨n, hnn⟩ : ∃ n, n = l.length := ⟨_, rfl⟩
  obtain ⟨m, hmm⟩ : ∃ m, m = ds.length := ⟨_, rfl⟩
  obtain ⟨np, hnp⟩ : ∃ m, m = p.length := ⟨_, rfl⟩
  have hgr := fun W (f : Fp Non w W) => great_c _ _ l ds W (hv.non f) (hd.non f) hn hm
  have hgp := fun W (f : Fp Non w W) => GreatPieces_c _ p W (hp.non f)
  rw [← hnn] at hv hgr ⊢
  rw [← hmm] at hd hgr ⊢
  rw [← hnp] at hp hgp ⊢
  have HNN := Lib.hid (And.intro hnn (And.intro hmm hnp))
  have HV := Lib.hid (And.intro hv (And.intro hd hp))
  have HG := Lib.hid (And.intro hgr hgp)
  clear hgr hgp hv hd hp hn hm hpn hnn hmm hnp
  go_enter Tryz.func3, Tryz.ntmps3
  go_wp2_with fail
  refine (head_c _).mono ?_
  rintro e w1 ⟨rfl, hf1⟩
  have F1 := Lib.hid hf1
  clear hf1
  go_wp2_with fail
  refine (HG.out.1 _ F1.out).mono ?_
  rintro e w2 ⟨gr, rfl, hg, hf2⟩
  have F2 := Lib.hid (F1.out.then hf2)
  clear hf2 F1
  cases gr with
  | true =>
    clear hg
    go_wp2
    go_ret
    exact ⟨rfl, F2.out⟩
  | false =>
  have FEW := Lib.hid (hg rfl)
  clear hg
  have hnb : n ≤ 200 := by have := FEW.out.nl; have := HNN.out.1; omega
  have hmb : m ≤ 200 := by have := FEW.out.nd; have := HNN.out.2.1; omega
  go_wp2_with fail
  refine (HG.out.2 _ F2.out).mono ?_
  rintro e w3 ⟨gp, rfl, hg, hf3⟩
  have F3 := Lib.hid (F2.out.then hf3)
  clear hf3 F2
  cases gp with
  | true =>
    clear hg
    go_wp2
    go_ret
    exact ⟨rfl, F3.out⟩
  | false =>
  have HP6 := Lib.hid (hg rfl)
  clear hg
  have hv2 : NsH w (.slice ao l.length cap) l := by have := HV.out.1; rw [HNN.out.1] at this; exact this
  have hd2 : Tx w (.slice ad ds.length cd) ds := by have := HV.out.2.1; rw [HNN.out.2.1] at this; exact this
  have hp2 : Sg pcC 8 w (.slice ap p.length cp) p := by have := HV.out.2.2; rw [HNN.out.2.2] at this; exact this
  have h1 := fun W (f : Fp Non w W) => Take_c _ _ l t a ds W (hv2.non f) FEW.out.hs (hd2.non f) FEW.out.ss (by have := FEW.out.nl; omega) (by have := FEW.out.nd; omega)
  have h2 := fun W (f : Fp Non w W) => rTake_c _ _ l t a ds W (hv2.non f) FEW.out.hs (hd2.non f) FEW.out.ss (by have := FEW.out.nl; omega) (by have := FEW.out.nd; omega)
  have h3 := fun q W (f : Fp Non w W) => Held_c _ l q W (hv2.non f) FEW.out.hs (by have := FEW.out.nl; omega)
  have h4 := fun q W (f : Fp Non w W) => rHeld_c _ l q W (hv2.non f) (by have := FEW.out.nl; omega)
  have h5 := fun W (f : Fp Non w W) => RightH_c _ l W (hv2.non f) FEW.out.hs (by have := FEW.out.nl; omega)
  have h6 := fun W (f : Fp Non w W) => rRight_c _ l W (hv2.non f) FEW.out.hs (by have := FEW.out.nl; omega)
  have h7 := fun W (f : Fp Non w W) => Free_c _ l t W (hv2.non f) FEW.out.hs (by have := FEW.out.nl; omega)
  have h8 := fun W (f : Fp Non w W) => rFree_c _ l t W (hv2.non f) (by have := FEW.out.nl; omega)
  have h9 := fun W (f : Fp Non w W) => Dirs_c _ p W (hp2.non f) (by have := HP6.out; have := HNN.out.2.2; omega)
  have h10 := fun W (f : Fp Non w W) => rDirs_c _ p W (hp2.non f) (by have := HP6.out; have := HNN.out.2.2; omega)
  have hA : (takeH l t a ds).1.length ≤ 1000000 ∧ (takeH l t a ds).2.1.length ≤ 1000000 := by
    unfold takeH
    split
    · rename_i hc
      have hr := (right_iff l).1 hc.1
      split
      · rename_i hw
        have := puts_len2 hr.up (own_of hc.2 hw)
        have := FEW.out.nl; have := FEW.out.nd
        exact ⟨by simp only; omega, by simp⟩
      · refine ⟨by simp only; have := FEW.out.nl; omega, ?_⟩
        simp only
        have hq := sub_len (l := wndH l t a ds) (m := l.map Hl.t) ((ordI_up _).imp (fun {a b} (h : a < b) => by omega)) (fun x hx => by
          obtain ⟨y, hy, e, _⟩ := wnd_own hx
          exact List.mem_map.2 ⟨y, hy, e⟩)
        rw [List.length_map] at hq
        have := FEW.out.nl; omega
    · exact ⟨by simp, by simp⟩
  have hB : (freeH l t).length ≤ 1000000 := Nat.le_trans (List.length_filter_le _ _) (by have := FEW.out.nl; omega)
  have hC : (ordB (p.map Pc.dir)).length ≤ 1000000 := Nat.le_trans (ord_len _) (by rw [List.length_map]; have := HP6.out; have := HNN.out.2.2; omega)
  obtain ⟨A, ws, is, hT⟩ : ∃ zA wl is, takeH l t a ds = (zA, wl, is) := ⟨_, _, _, rfl⟩
  rw [hT] at hA
  simp only at hA
  obtain ⟨na, hna⟩ : ∃ k, k = A.length := ⟨_, rfl⟩
  obtain ⟨nw, hnw⟩ : ∃ k, k = ws.length := ⟨_, rfl⟩
  have s1 := fun u v W (hu : NsH W u A) (hv : NsH W v A) => rSameH_c u v A A W hu hv hA.1 hA.1
  have s2 := fun u v W (hu : Nm W u ws) (hv : Nm W v ws) => rSameI_c u v ws ws W hu hv hA.2 hA.2
  have s3 := fun u v W (hu : NsH W u (freeH l t)) (hv : NsH W v (freeH l t)) => rSameH_c u v _ _ W hu hv hB hB
  have s4 := fun u v W (hu : Tx W u (ordB (p.map Pc.dir))) (hv : Tx W v (ordB (p.map Pc.dir))) => rSameS_c u v _ _ W hu hv hC hC
  simp only [decide_true] at s1 s2 s3 s4
  rw [← HNN.out.1] at h1 h2 h3 h4 h5 h6 h7 h8
  rw [← HNN.out.2.1] at h1 h2
  rw [← HNN.out.2.2] at h9 h10
  obtain ⟨br, hbr⟩ : ∃ b, rightH l = b := ⟨_, rfl⟩
  rw [hbr] at h5 h6
  have HQ := Lib.hid (And.intro h1 (And.intro h2 (And.intro h3 (And.intro h4 (And.intro h5 (And.intro h6 (And.intro h7 (And.intro h8 (And.intro h9 h10)))))))))
  have HS := Lib.hid (And.intro s1 (And.intro s2 (And.intro s3 s4)))
  have HT := Lib.hid (And.intro hT (And.intro hna hnw))
  clear h1 h2 h3 h4 h5 h6 h7 h8 h9 h10 s1 s2 s3 s4 hT hna hnw hA hB hC hv2 hd2 hp2 hbr
  go_wp2_with fail
  refine (HQ.out.1 _ F3.out).mono ?_
  intro e w4 hR
  have hsh := hR.sh
  rw [HT.out.1] at hsh
  simp only [← HT.out.2.1, ← HT.out.2.2] at hsh
  obtain ⟨x4, c4, y4, d4, rfl, n4, m4⟩ := hsh
  have K4 := Lib.hid (Kp.and (Kp.nsH n4) (Kp.and (Kp.nm m4) (Kp.fp (F3.out.then hR.fp))))
  clear hR n4 m4 F3
  go_wp2_with fail
  refine (HQ.out.2.1 _ K4.out.now.2.2).mono ?_
  intro e w5 hR
  have hsh := hR.sh
  rw [HT.out.1] at hsh
  simp only [← HT.out.2.1, ← HT.out.2.2] at hsh
  obtain ⟨x5, c5, y5, d5, rfl, n5, m5⟩ := hsh
  have K5 := Lib.hid (Kp.and (Kp.nsH n5) (Kp.and (Kp.nm m5) (K4.out.later hR.fp)))
  clear hR n5 m5 K4
  go_wp2_with fail
  go_loopw [18] (fun i wr => ∃ k : Nat, k ≤ m ∧ i = .int .i64 k ∧ Hid (Fp Non w5 wr)) (fun i _ => m - (RowKit.intOf i).toNat)
  case atStart => exact ⟨0, Nat.zero_le _, rfl, Fp.refl _ _⟩
  case round =>
    obtain ⟨k, hk, rfl, hR⟩ := hrel
    rename World => wr
    by_cases hlt : k < m
    · have hkl : k < ds.length := by rw [← HNN.out.2.1]; exact hlt
      obtain ⟨g, o, cap', e, hcell⟩ := HV.out.2.1.txs (by omega)
      rw [← HNN.out.2.1] at e
      injection e with e1 e2 e3
      subst e1 e3
      have hc := fun W (f : Fp Non w W) => f.cell (hcell k hkl) (fun h => h)
      obtain ⟨q, hq⟩ : ∃ q, q = ds[k] := ⟨_, rfl⟩
      simp only [← hq] at hc
      clear hq hcell hkl
      have c0 := hc _ (K5.out.now.2.2.2.2.then hR.out)
      have q3 : ((k : Int) < (m : Int)) = True := eq_true (by omega)
      have q4 : (k < m) = True := eq_true hlt
      have HL := Lib.hid (And.intro hlt hc)
      clear hlt hc
      obtain ⟨z1, hz1⟩ : ∃ z, ((heldH l q).map Hl.t).getD 0 = z := ⟨_, rfl⟩
      obtain ⟨z2, hz2⟩ : ∃ z, (heldH l q).isSome = z := ⟨_, rfl⟩
      have h3 := HQ.out.2.2.1 q wr (K5.out.now.2.2.2.2.then hR.out)
      have h4 := fun W f => HQ.out.2.2.2.1 q W f
      rw [hz1, hz2] at h3 h4
      have HZ := Lib.hid (And.intro h3 h4)
      clear h3 h4 hz1 hz2
      go_wp2_with fail
      refine HZ.out.1.mono ?_
      rintro e w6 ⟨rfl, hf6⟩
      have F6 := Lib.hid (hR.out.then hf6)
      have c6 := HL.out.2 _ (K5.out.now.2.2.2.2.then F6.out)
      clear hf6 c0
      go_wp2_with fail
      refine (HZ.out.2 _ (K5.out.now.2.2.2.2.then F6.out)).mono ?_
      rintro e w7 ⟨rfl, hf7⟩
      have F7 := Lib.hid (F6.out.then hf7)
      clear hf7 c6
      have r1 : (z1 != z1) = false := by simp
      have r2 : (z2 != z2) = false := by simp
      have hkn := HL.out.1
      go_wp2_with fail
      go_roundw
      case rel => exact ⟨k + 1, by omega, by go_num, F7⟩
      case measure => simp [RowKit.intOf]; omega
    · have hke : k = m := by omega
      subst hke
      have q3 : ((k : Int) < (k : Int)) = False := eq_false (by omega)
      have K6 := Lib.hid (K5.out.later hR.out)
      clear hlt hk hR K5
      go_wp2_with fail
      refine (HQ.out.2.2.2.2.1 _ K6.out.now.2.2.2.2).mono ?_
      rintro e w8 ⟨rfl, hf⟩
      have K8 := Lib.hid (K6.out.later hf)
      clear hf K6
      go_wp2_with fail
      refine (HQ.out.2.2.2.2.2.1 _ K8.out.now.2.2.2.2).mono ?_
      rintro e w9 ⟨rfl, hf⟩
      have K9 := Lib.hid (K8.out.later hf)
      clear hf K8
      have r0 : (br == br) = true := beq_self_eq_true br
      go_wp2_with fail
      refine (HS.out.1 _ _ _ K9.out.now.2.2.1 K9.out.now.1).mono ?_
      rintro e w10 ⟨rfl, hf⟩
      have K10 := Lib.hid (K9.out.later hf)
      clear hf K9
      go_wp2_with fail
      refine (HS.out.2.1 _ _ _ K10.out.now.2.2.2.1 K10.out.now.2.1).mono ?_
      rintro e w11 ⟨rfl, hf⟩
      have K11 := Lib.hid (K10.out.later hf)
      clear hf K10
      have r1 : (is == is) = true := beq_self_eq_true is
      go_wp2_with fail
      refine (HQ.out.2.2.2.2.2.2.1 _ K11.out.now.2.2.2.2).mono ?_
      rintro e w12 ⟨v12, rfl, h12⟩
      have n12 := h12.own.ns
      obtain ⟨x12, c12, rfl⟩ := n12.shape
      have K12 := Lib.hid (Kp.and (Kp.nsH n12) (K11.out.later h12.fp))
      clear h12 n12 K11
      go_wp2_with fail
      refine (HQ.out.2.2.2.2.2.2.2.1 _ K12.out.now.2.2.2.2.2).mono ?_
      rintro e w13 ⟨v13, rfl, h13⟩
      have n13 := h13.own.ns
      obtain ⟨x13, c13, rfl⟩ := n13.shape
      have K13 := Lib.hid (Kp.and (Kp.nsH n13) (K12.out.later h13.fp))
      clear h13 n13 K12
      go_wp2_with fail
      refine (HS.out.2.2.1 _ _ _ K13.out.now.2.1 K13.out.now.1).mono ?_
      rintro e w14 ⟨rfl, hf⟩
      have K14 := Lib.hid (K13.out.later hf)
      clear hf K13
      go_wp2_with fail
      refine (HQ.out.2.2.2.2.2.2.2.2.1 _ K14.out.now.2.2.2.2.2.2).mono ?_
      rintro e w15 ⟨v15, rfl, h15⟩
      have n15 := OwG.sg txC_len h15.own
      obtain ⟨x15, c15, rfl⟩ := n15.shape
      have K15 := Lib.hid (Kp.and (Kp.tx n15) (K14.out.later h15.fp))
      clear h15 n15 K14
      go_wp2_with fail
      refine (HQ.out.2.2.2.2.2.2.2.2.2 _ K15.out.now.2.2.2.2.2.2.2).mono ?_
      rintro e w16 ⟨x16, c16, rfl, n16, hf⟩
      have K16 := Lib.hid (Kp.and (Kp.tx n16) (K15.out.later hf))
      clear hf n16 K15
      go_wp2_with fail
      refine (HS.out.2.2.2 _ _ _ K16.out.now.2.1 K16.out.now.1).mono ?_
      rintro e w17 ⟨rfl, hf⟩
      have K17 := Lib.hid (K16.out.later hf)
      clear hf K16
      go_wp2
      go_ret
      exact ⟨rfl, K17.out.now.2.2.2.2.2.2.2.2⟩
end Go.Proofs.YtenaggleepoclaaGreat
