/- WatchTakes (gen_zi.py) -/
import Derived.Test.YthgcmkgfmmjmaaaZh
namespace Go.Proofs.Ythgcmkgfmmjmaaa
set_option maxRecDepth 20000
set_option linter.unusedVariables false
set_option linter.unusedSimpArgs false
open Go.RowKit Pm


theorem cut0 {s : Se} (h : rSe s = true) (k : Nat) : cutE 0 (s.evs.drop k) = s.evs.drop k := by
  obtain ⟨_, ⟨_, _, _, h5⟩, h6⟩ := (rSe_iff s).1 h
  unfold cutE
  rw [List.filter_eq_self]
  intro e he
  obtain ⟨i, hi, rfl⟩ := List.mem_iff_getElem.1 (List.mem_of_mem_drop he)
  have h7 := h6 i hi
  unfold rEv at h7
  simp only [Bool.and_eq_true, decide_eq_true_eq] at h7
  exact decide_eq_true (by omega)
theorem take_none {d : Wd} {q u : Int} (h : rightW d = true) (hg : getS d.ss q = none) : takeM d q u = (d, [], 62) := by
  unfold takeM; rw [h, hg]; rfl
theorem take_some {d : Wd} {q u : Int} {s : Se} (h : rightW d = true) (hg : getS d.ss q = some s) : takeM d q u = (⟨d.ws, putS d.ss ⟨s.num, s.count, cutE u s.evs⟩⟩, cutE u s.evs, 0) := by
  unfold takeM; rw [h, hg]; rfl
theorem take_again {d : Wd} {q u : Int} {s : Se} {k : Nat} (h : rightW d = true) (hg : getS d.ss q = some s) (hk : cutE u s.evs = s.evs.drop k) : (takeM (takeM d q u).1 q 0).2 = (s.evs.drop k, 0) := by
  have hr := take_right d q u h
  obtain ⟨_, _, hs⟩ := (right_iff d).1 h
  have hn := (getS_some hg).2
  have hsr := hs.1 s (getS_some hg).1
  rw [take_some h hg, hk] at hr ⊢
  have hg2 : getS (putS d.ss ⟨s.num, s.count, s.evs.drop k⟩) q = some ⟨s.num, s.count, s.evs.drop k⟩ := by
    rw [getS_put hs.2, if_pos hn.symm]
  rw [take_some hr hg2]
  simp only
  rw [cut0 hsr]
theorem seS_of {ss : List Se} {q : Int} {s : Se} (h : getS ss q = some s) : seS ss q = s := by unfold seS; rw [h]; rfl
theorem NsE.drop {w : World} {a : Option Addr} {n cap : Nat} {l : List Ev} (h : NsE w (.slice a n cap) l) (k : Nat) (hk : k ≤ n) (hn : n = l.length) : NsE w (.slice (a.map fun p => p.add (k * 4)) (n - k) (cap - k)) (l.drop k) := by
  obtain ⟨ao, cap', e, h1, h2, h3⟩ := h.ex
  injection e with e1 e2 e3
  subst e1 e3
  have hl : (l.drop k).length = n - k := by rw [List.length_drop]; omega
  refine ⟨_, _, by rw [hl], by rw [hl]; omega, by omega, ?_⟩
  rcases h3 with h3 | ⟨g, o, e4, hg, hc⟩
  · subst h3; exact .inl (by simp)
  · subst e4
    refine .inr ⟨g, o + k * 4, by simp [Addr.add], hg, fun i hi => ?_⟩
    rw [List.getElem_drop]
    have := hc (k + i) (by rw [hl] at hi; omega)
    rw [show o + k * 4 + i * 4 = o + (k + i) * 4 from by omega]
    exact this

theorem SameEv_t (v u : Value) (a : List Ev) (w : World) (hv : NsE w v a) (hu : NsE w u a) (hn : a.length ≤ 1000000) :
    Calls Try.prog 21 #[v, u] w fun e w' => e = .returned (.bool true) ∧ Fp Non w w' := by
  have h := SameEv_c v u a a w hv hu hn hn
  rwa [decide_eq_true rfl] at h
set_option maxHeartbeats 16000000 in
theorem WatchTakes_c (v : Value) (d : Wd) (q u : Int) (w : World) (hv : WdR w v d) (hn : d.ws.length ≤ 140737488355328) (hm : d.ss.length ≤ 140737488355328) :
    Calls Try.prog 9 #[v, .int .i64 q, .int .i64 u] w fun e w' => e = .returned (.bool true) ∧ Fp Non w w' := by
  obtain ⟨aw, cw, at_, cs, rfl⟩ := hv.vals
  obtain ⟨n, hnn⟩ : ∃ n, n = d.ws.length := ⟨_, rfl⟩
  obtain ⟨m, hmm⟩ : ∃ m, m = d.ss.length := ⟨_, rfl⟩
  rw [← hnn, ← hmm] at hv ⊢
  have r0 := heap_alloc_new w (.cells #[.slice aw n cw, .slice at_ m cs] TD)
  have f0 := fp_alloc w (.cells #[.slice aw n cw, .slice at_ m cs] TD)
  have K0 := Lib.hid (Kp.and (Kp.row r0) (Kp.and (Kp.wd (hv.non f0)) (Kp.fp f0)))
  have HN := Lib.hid (And.intro hnn (And.intro hmm (And.intro hn hm)))
  clear hv hn hm hnn hmm r0 f0
  go_enter Try.func9, Try.ntmps9
  go_wp2_with fail
  refine (head_c _).mono ?_
  rintro e w1 ⟨rfl, hf⟩
  have K1 := Lib.hid (K0.out.later hf)
  clear hf K0
  obtain ⟨p0, p1⟩ := boxP2 K1.out.now.1
  go_wp2_with fail
  refine (GreatAll_c _ d w1 K1.out.now.2.1 HN.out.2.2.1 HN.out.2.2.2).mono ?_
  rintro e w2 ⟨g, rfl, hg, hf⟩
  have K2 := Lib.hid (K1.out.later hf)
  have HG := Lib.hid hg
  clear hf hg K1 p0 p1
  have F2 := Lib.hid K2.out.now.2.2
  obtain ⟨p0, p1⟩ := boxP2 K2.out.now.1
  cases g with
  | true =>
    clear K2 HG
    go_wp2
    go_ret
    exact ⟨rfl, F2.out⟩
  | false =>
    have HFW := Lib.hid (HG.out rfl)
    have hrr := rRight_w _ d w2 K2.out.now.2.1 HFW.out.sz
    obtain ⟨br, hbr⟩ : ∃ b, rightW d = b := ⟨_, rfl⟩
    rw [hbr] at hrr
    have HRR := Lib.hid hrr
    have HBR := Lib.hid hbr
    clear hrr hbr HG F2
    go_wp2_with fail
    refine HRR.out.mono ?_
    rintro e w3 ⟨rfl, hf⟩
    have K3 := Lib.hid (K2.out.later hf)
    clear hf K2 HRR
    have F3 := Lib.hid K3.out.now.2.2
    clear p0 p1
    obtain ⟨p0, p1⟩ := boxP2 K3.out.now.1
    cases br with
    | false =>
      clear K3 HFW
      go_wp2
      go_ret
      exact ⟨rfl, F3.out⟩
    | true =>
      have htk := fun u W (hW : WdR W (.agg #[.slice aw n cw, .slice at_ m cs]) d) => Take_w _ d q u W hW HFW.out.sz
      have hfi := fun W (hW : WdR W (.agg #[.slice aw n cw, .slice at_ m cs]) d) => Find_c _ d q W hW (by have := HFW.out.n; omega)
      have HFI := Lib.hid hfi
      have HTK := Lib.hid htk
      clear htk hfi F3
      cases hgs : getS d.ss q with
      | none =>
        have ht0 := fun u => take_none (u := u) HBR.out hgs
        have HT2 := Lib.hid (fun u W (hW : WdR W (.agg #[.slice aw n cw, .slice at_ m cs]) d) => show Calls Try.prog 19 _ W (RetT d [] 62 W) from by have h := HTK.out u W hW; rw [ht0 u] at h; exact h)
        have HGS := Lib.hid hgs
        clear ht0 HTK hgs
        go_wp2_with fail
        refine (HT2.out _ _ K3.out.now.2.1).mono ?_
        rintro e w4 hR
        obtain ⟨a4, m4, c4, d4, k4, e4, l4, n4, f4, rfl, hm4, hk4, hn4, hw4, hl4⟩ := hR.bx
        have hbx := heap_alloc_new w4 (.cells #[.slice a4 m4 c4, .slice d4 k4 e4] TD)
        have HM4 := Lib.hid (And.intro hm4 (And.intro hk4 hn4))
        clear hm4 hk4 hn4
        have K4 := Lib.hid (Kp.and (Kp.row hbx) ((Kp.and (Kp.wd hw4) (Kp.and (Kp.ne hl4) (K3.out.later hR.fp))).later (fp_alloc w4 (.cells #[.slice a4 m4 c4, .slice d4 k4 e4] TD))))
        clear hR hbx hw4 hl4 K3 p0 p1
        obtain ⟨p0, p1⟩ := boxP2 K4.out.now.2.2.2.1
        go_wp2_with fail
        refine (HT2.out _ _ K4.out.now.2.2.2.2.1).mono ?_
        rintro e w5 hR
        obtain ⟨a5, m5, c5, d5, k5, e5, l5, n5, f5, rfl, hm5, hk5, hn5, hw5, hl5⟩ := hR.bx
        have hbx := heap_alloc_new w5 (.cells #[.slice a5 m5 c5, .slice d5 k5 e5] TD)
        have HM5 := Lib.hid (And.intro hm5 (And.intro hk5 hn5))
        clear hm5 hk5 hn5
        have K5 := Lib.hid (Kp.and (Kp.row hbx) ((Kp.and (Kp.wd hw5) (Kp.and (Kp.ne hl5) (K4.out.later hR.fp))).later (fp_alloc w5 (.cells #[.slice a5 m5 c5, .slice d5 k5 e5] TD))))
        clear hR hbx hw5 hl5 K4 p0 p1 HT2
        obtain ⟨p0, p1⟩ := boxP2 K5.out.now.2.2.2.2.2.2.1
        go_wp2_with fail
        refine (HFI.out _ K5.out.now.2.2.2.2.2.2.2.1).mono ?_
        rintro e w6 hR
        obtain ⟨ev, rfl, hne⟩ := hR.ex
        obtain ⟨aq, cq, rfl⟩ := hne.shape
        rw [HGS.out]
        have F6 := Lib.hid ((K5.out.later hR.fp).now.2.2.2.2.2.2.2.2.alloc (.cells #[.int .i64 (seS d.ss q).num, .int .i64 (seS d.ss q).count, .slice aq (seS d.ss q).evs.length cq] TV))
        generalize (seS d.ss q) = sq at *
        clear hR hne HFI p0 p1 K5
        go_wp2_with fail
        go_ret
        exact ⟨rfl, F6.out⟩
      | some s =>
        have hsr := ((right_iff d).1 HBR.out).2.2.1 s (getS_some hgs).1
        obtain ⟨k, hk1, hk2, hk3⟩ := cutE_right hsr u
        have ht0 := take_some (u := 0) HBR.out hgs
        have c00 := cut0 hsr 0
        rw [List.drop_zero] at c00
        rw [c00] at ht0
        have ht1 := take_some (u := u) HBR.out hgs
        have hag := take_again HBR.out hgs hk2
        have hzz := right_sz (take_right d q u HBR.out) (by rw [ht1]; have := putS_len d.ss ⟨s.num, s.count, cutE u s.evs⟩; have := HFW.out.n; simp only; omega)
        rw [hk2] at ht1
        have HA := Lib.hid (fun W (hW : WdR W (.agg #[.slice aw n cw, .slice at_ m cs]) d) => show Calls Try.prog 19 _ W (RetT (takeM d q 0).1 s.evs 0 W) from by have h := HTK.out 0 W hW; rw [show (takeM d q 0).2.1 = s.evs from by rw [ht0], show (takeM d q 0).2.2 = 0 from by rw [ht0]] at h; exact h)
        have HB := Lib.hid (fun W (hW : WdR W (.agg #[.slice aw n cw, .slice at_ m cs]) d) => show Calls Try.prog 19 _ W (RetT (takeM d q u).1 (s.evs.drop k) 0 W) from by have h := HTK.out u W hW; rw [show (takeM d q u).2.1 = s.evs.drop k from by rw [ht1], show (takeM d q u).2.2 = 0 from by rw [ht1]] at h; exact h)
        have HC := Lib.hid (fun v W (hW : WdR W v (takeM d q u).1) => show Calls Try.prog 19 #[v, .int .i64 q, .int .i64 0] W (RetT (takeM (takeM d q u).1 q 0).1 (s.evs.drop k) 0 W) from by have h := Take_w v (takeM d q u).1 q 0 W hW hzz; rw [hag] at h; exact h)
        have hev := HFW.out.s s (getS_some hgs).1
        have HE := Lib.hid (And.intro hk1 (And.intro hk3 hev.1))
        have HGS := Lib.hid hgs
        obtain ⟨dA, hdA⟩ : ∃ D, D = (takeM d q 0).1 := ⟨_, rfl⟩
        obtain ⟨dB, hdB⟩ : ∃ D, D = (takeM d q u).1 := ⟨_, rfl⟩
        rw [← hdA] at HA
        rw [← hdB] at HB HC
        obtain ⟨dC, hdC⟩ : ∃ D, D = (takeM dB q 0).1 := ⟨_, rfl⟩
        rw [← hdC] at HC
        clear hsr ht0 c00 ht1 hag hzz hk1 hk2 hk3 hev hgs HTK hdA hdB hdC
        go_wp2_with fail
        refine (HA.out _ K3.out.now.2.1).mono ?_
        rintro e w4 hR
        obtain ⟨a4, m4, c4, d4, k4, e4, l4, n4, f4, rfl, hm4, hk4, hn4, hw4, hl4⟩ := hR.bx
        have hbx := heap_alloc_new w4 (.cells #[.slice a4 m4 c4, .slice d4 k4 e4] TD)
        have HM4 := Lib.hid (And.intro hm4 (And.intro hk4 hn4))
        clear hm4 hk4 hn4
        have K4 := Lib.hid (Kp.and (Kp.row hbx) ((Kp.and (Kp.wd hw4) (Kp.and (Kp.ne hl4) (K3.out.later hR.fp))).later (fp_alloc w4 (.cells #[.slice a4 m4 c4, .slice d4 k4 e4] TD))))
        clear hR hbx hw4 hl4 K3 p0 p1 HA
        obtain ⟨p0, p1⟩ := boxP2 K4.out.now.2.2.2.1
        go_wp2_with fail
        refine (HB.out _ K4.out.now.2.2.2.2.1).mono ?_
        rintro e w5 hR
        obtain ⟨a5, m5, c5, d5, k5, e5, l5, n5, f5, rfl, hm5, hk5, hn5, hw5, hl5⟩ := hR.bx
        have hbx := heap_alloc_new w5 (.cells #[.slice a5 m5 c5, .slice d5 k5 e5] TD)
        have HM5 := Lib.hid (And.intro hm5 (And.intro hk5 hn5))
        clear hm5 hk5 hn5
        have K5 := Lib.hid (Kp.and (Kp.row hbx) ((Kp.and (Kp.wd hw5) (Kp.and (Kp.ne hl5) (K4.out.later hR.fp))).later (fp_alloc w5 (.cells #[.slice a5 m5 c5, .slice d5 k5 e5] TD))))
        clear hR hbx hw5 hl5 K4 p0 p1 HB
        obtain ⟨p0, p1⟩ := boxP2 K5.out.now.2.2.2.2.2.2.1
        go_wp2_with fail
        refine (HFI.out _ K5.out.now.2.2.2.2.2.2.2.1).mono ?_
        rintro e w6 hR
        obtain ⟨ev, rfl, hne⟩ := hR.ex
        obtain ⟨aq, cq, rfl⟩ := hne.shape
        rw [HGS.out]
        have K6 := Lib.hid ((K5.out.later hR.fp).later (fp_alloc w6 (.cells #[.int .i64 (seS d.ss q).num, .int .i64 (seS d.ss q).count, .slice aq (seS d.ss q).evs.length cq] TV)))
        generalize (seS d.ss q) = sq at *
        clear hR hne HFI p0 p1 K5
        obtain ⟨p0, p1⟩ := boxP2 K6.out.now.1
        go_wp2_with fail
        refine (HC.out _ _ K6.out.now.2.1).mono ?_
        rintro e w9 hR
        obtain ⟨a9, m9, c9, d9, k9, e9, l9, n9, f9, rfl, hm9, hk9, hn9, hw9, hl9⟩ := hR.bx
        have hbx := heap_alloc_new w9 (.cells #[.slice a9 m9 c9, .slice d9 k9 e9] TD)
        have HM9 := Lib.hid (And.intro hm9 (And.intro hk9 hn9))
        clear hm9 hk9 hn9
        have K9 := Lib.hid (Kp.and (Kp.row hbx) ((Kp.and (Kp.wd hw9) (Kp.and (Kp.ne hl9) (K6.out.later hR.fp))).later (fp_alloc w9 (.cells #[.slice a9 m9 c9, .slice d9 k9 e9] TD))))
        clear hR hbx hw9 hl9 K6 p0 p1 HC
        have HN4 : Hid (n4 = s.evs.length) := HM4.out.2.2
        have HN5 : Hid (n5 = (s.evs.drop k).length) := HM5.out.2.2
        have HN9 : Hid (n9 = (s.evs.drop k).length) := HM9.out.2.2
        go_wp2_with fail
        generalize (World.alloc w9 _) = wq at *
        go_loopw [19, 20] (fun z i wr => ∃ j : Nat, j ≤ n4 ∧ i = .int .i64 j ∧ ∃ c : Nat, z = .int .i64 c ∧ c = min j k ∧ Hid (Fp Non wq wr)) (fun _ i _ => n4 - (RowKit.intOf i).toNat)
        case atStart => exact ⟨0, Nat.zero_le _, rfl, 0, rfl, by omega, Fp.refl _ _⟩
        case round =>
          obtain ⟨j, hj, rfl, c, rfl, hc, hR⟩ := hrel
          rename_i wr _
          have HK := Lib.hid (K9.out.later hR.out)
          have hkb := HE.out.1
          have hnb := HE.out.2.2
          by_cases hlt : j < n4
          · have hjl : j < s.evs.length := by rw [← HN4.out]; exact hlt
            have hiff := HE.out.2.1 j hjl
            obtain ⟨g, o, cap', e, _, _, _, hcell⟩ := (show NsE wr (.slice l4 s.evs.length f4) s.evs from by rw [← HN4.out]; exact HK.out.now.2.2.2.2.2.2.2.2.1).at (by omega)
            injection e with e1 e2 e3
            subst e1 e3
            have hnd := hcell j hjl
            generalize s.evs[j] = x at *
            have c0 := hnd.c0
            have q3 : ((j : Int) < (n4 : Int)) = True := eq_true (by omega)
            have q4 : (j < n4) = True := eq_true hlt
            have HL := Lib.hid (And.intro hlt hc)
            have HI := Lib.hid hiff
            have hcb : c ≤ 3000 := by omega
            have hjb : j ≤ 3000 := by have := HN4.out; omega
            clear hcell hnd hjl e2
            by_cases hjk : j < k
            · have q5 : (x.num ≤ u) = True := eq_true (hiff.1 hjk)
              have HJ := Lib.hid hjk
              clear hlt hc hiff hjk
              go_wp2
              go_roundw
              case rel => exact ⟨j + 1, by have := HL.out.1; omega, by go_num, c + 1, by go_num, by have := HL.out.2; have := HJ.out; omega, hR⟩
              case measure => have := HL.out.1; simp [RowKit.intOf]; omega
            · have q5 : (x.num ≤ u) = False := eq_false (fun h => hjk (hiff.2 h))
              have HJ := Lib.hid hjk
              clear hlt hc hiff hjk
              go_wp2
              go_roundw
              case rel => exact ⟨j + 1, by have := HL.out.1; omega, by go_num, c, by go_num, by have := HL.out.2; have := HJ.out; omega, hR⟩
              case measure => have := HL.out.1; simp [RowKit.intOf]; omega
          · have hje : j = n4 := by omega
            subst hje
            have q3 : ((j : Int) < (j : Int)) = False := eq_false (by omega)
            have hck : c = k := by have := HN4.out; omega
            subst hck
            clear hc hlt hj
            have HL3 := Lib.hid (show (s.evs.drop c).length ≤ 1000000 by rw [List.length_drop]; omega)
            have q9 : (c ≤ j) = True := eq_true (by have := HN4.out; omega)
            by_cases hfc : f4 = c
            · have hd : NsE wr (.slice l4 (j - c) (f4 - c)) (s.evs.drop c) := by
                have h1 := (HK.out.now.2.2.2.2.2.2.2.2.1)
                obtain ⟨ao, cap', e, h1, h2, h3⟩ := h1.ex
                injection e with e1 e2 e3
                have hz : j - c = 0 := by have := HN4.out; omega
                have hl : (s.evs.drop c).length = 0 := by rw [List.length_drop]; have := HN4.out; omega
                refine ⟨l4, f4 - c, by rw [hl, hz], by rw [hl]; exact Nat.zero_le _, by omega, .inl (List.length_eq_zero_iff.1 hl)⟩
              have HD := Lib.hid hd
              have q8 : (f4 = c) = True := eq_true hfc
              have HSA := Lib.hid (SameEv_t (.slice l5 n5 f5) (.slice l4 (j - c) (f4 - c)) (s.evs.drop c) wr HK.out.now.2.2.2.2.2.1 hd HL3.out)
              clear hd hfc
              go_wp2_with fail
              refine HSA.out.mono ?_
              rintro e w10 ⟨rfl, hf⟩
              have HK2 := Lib.hid (HK.out.later hf)
              have HSB := Lib.hid (SameEv_t (.slice l9 n9 f9) (.slice l5 n5 f5) (s.evs.drop c) w10 HK2.out.now.2.2.1 HK2.out.now.2.2.2.2.2.1 HL3.out)
              clear hf HK
              go_wp2_with fail
              refine HSB.out.mono ?_
              rintro e w11 ⟨rfl, hf⟩
              have HK3 := Lib.hid ((HK2.out.later hf).now.2.2.2.2.2.2.2.2.2.2.2)
              clear hf HK2
              go_wp2_with fail
              go_ret
              exact ⟨rfl, HK3.out⟩
            · have hd := (HK.out.now.2.2.2.2.2.2.2.2.1).drop c (by have := HN4.out; omega) HN4.out
              have HD := Lib.hid hd
              have q8 : (f4 = c) = False := eq_false hfc
              have HSA := Lib.hid (SameEv_t (.slice l5 n5 f5) (.slice (l4.map fun p => p.add (c * 4)) (j - c) (f4 - c)) (s.evs.drop c) wr HK.out.now.2.2.2.2.2.1 hd HL3.out)
              clear hd hfc
              go_wp2_with fail
              refine HSA.out.mono ?_
              rintro e w10 ⟨rfl, hf⟩
              have HK2 := Lib.hid (HK.out.later hf)
              have HSB := Lib.hid (SameEv_t (.slice l9 n9 f9) (.slice l5 n5 f5) (s.evs.drop c) w10 HK2.out.now.2.2.1 HK2.out.now.2.2.2.2.2.1 HL3.out)
              clear hf HK
              go_wp2_with fail
              refine HSB.out.mono ?_
              rintro e w11 ⟨rfl, hf⟩
              have HK3 := Lib.hid ((HK2.out.later hf).now.2.2.2.2.2.2.2.2.2.2.2)
              clear hf HK2
              go_wp2_with fail
              go_ret
              exact ⟨rfl, HK3.out⟩
end Go.Proofs.Ythgcmkgfmmjmaaa
