/- OwnedOne: with a range that is installed, or frozen, a directory has another one only if it is in its Prefix, and in no longer one's; then its state is that (gen_ub.py) -/
import Derived.Test.YtcjpgenlhphapaaOx
import Derived.Test.YtcjpgenlhphapaaKa
import Derived.Test.YtcjpgenlhphapaaRd
namespace Go.Proofs.Ytcjpgenlhphapaa
set_option maxRecDepth 20000
set_option linter.unusedVariables false
set_option linter.unusedSimpArgs false
open Go.RowKit Pm


theorem longer_succ {l : List Hl} {p d : Bs} {k : Nat} (hk : k < l.length) : longer (l.take (k + 1)) p d = (longer (l.take k) p d || (inB d l[k].d && decide (p.length < l[k].d.length))) := by
  unfold longer
  rw [List.take_succ_eq_append_getElem hk, List.any_append]
  simp
theorem one_inst {l m : List Hl} {p d : Bs} {ep : Int} (h : inst l p ep = some m) : RtH m ∧ stR m d = if (inB d p && !longer l p d) = true then 1 else stR l d := by
  obtain ⟨hl, hp, he, _, hm, hr⟩ := inst_some h
  have P := put_of hl (okH_of (a := 1) hp he (by omega)) hr
  rw [hm]
  exact ⟨P.rt, st_put hl P.rt d⟩
theorem one_frz {l m : List Hl} {p d : Bs} (h : frz l p = some m) : RtH m ∧ stR m d = (if (inB d p && !longer l p d) = true then 2 else stR l d) ∧ stR l p = 1 := by
  obtain ⟨own, hm, P, hp, hb, hl, hs, _⟩ := freeze_put h
  rw [hm]
  exact ⟨P.rt, st_put hl P.rt d, hs⟩

set_option maxHeartbeats 16000000 in
theorem lawOwnedOne_c (v : Value) (l : List Hl) (p : Bs) (ep : Int) (d : Bs) (w : World) (hv : NsH w v l) (hn : l.length ≤ 140737488355328) (hep : -9223372036854775808 ≤ ep ∧ ep ≤ 9223372036854775807) :
    Calls Try.prog 5 #[v, .string (B p), .int .i64 ep, .string (B d)] w fun e w' => e = .returned (.bool true) ∧ Fp Non w w' := by
  have hgr := fun W (f : Fp Non w W) => Great_c v l W (hv.non f) hn
  have hrr := fun W (f : Fp Non w W) (h : Few l) => rRightH_c v l W (hv.non f) h.szs.p h.szs.n
  have hpr := fun W (h : d.length ≤ 1000000) => rRight_g d W (sz_of h (by omega))
  have hin := fun W (f : Fp Non w W) (h : Few l) (hp : p.length ≤ 1000000) => Install_c v l p ep W (hv.non f) h.szs hp
  have hfr := fun W (f : Fp Non w W) (h : Few l) (hp : p.length ≤ 1000000) => Freeze_c v l p W (hv.non f) h.szs hp
  have hsl := fun W (f : Fp Non w W) (h : Few l) (hp : d.length ≤ 1000000) => StateH_c v l d W (hv.non f) h.szs hp
  have hsp := fun W (f : Fp Non w W) (h : Few l) (hp : p.length ≤ 1000000) => StateH_c v l p W (hv.non f) h.szs hp
  obtain ⟨ao, cap, rfl⟩ := hv.shape
  obtain ⟨n, hnn⟩ : ∃ n, n = l.length := ⟨_, rfl⟩
  have HV := Lib.hid (And.intro hnn hv)
  rw [← hnn] at hgr hrr hin hfr hsl hsp ⊢
  have HG := Lib.hid hgr
  have HRR := Lib.hid (And.intro hrr hpr)
  have HIF := Lib.hid (And.intro hin hfr)
  have HSL := Lib.hid (And.intro hsl hsp)
  have hnb : n ≤ 140737488355328 := by omega
  clear hgr hrr hpr hin hfr hsl hsp hv hn hnn
  go_enter Try.func5, Try.ntmps5
  go_wp2_with fail
  refine (head_c _).mono ?_
  rintro e w1 ⟨rfl, hf1⟩
  have F1 := Lib.hid hf1
  clear hf1
  go_wp2_with fail
  refine (HG.out _ F1.out).mono ?_
  rintro e w2 ⟨gr, rfl, hg, hf2⟩
  have F2 := Lib.hid (F1.out.then hf2)
  clear hf2 F1
  cases gr with
  | true =>
    clear hg
    go_wp2
    go_ret
    exact ⟨rfl, F2.out⟩
  | false =>
  have FEW := Lib.hid (hg rfl)
  clear hg
  by_cases hp : 1000 < p.length
  · have q1 : ((1000 : Int) < (p.length : Int)) = True := eq_true (by omega)
    have q2 : (1000 < p.length) = True := eq_true hp
    clear hp
    go_wp2
    go_ret
    exact ⟨rfl, F2.out⟩
  have q1 : ((1000 : Int) < (p.length : Int)) = False := eq_false (by omega)
  have q2 : (1000 < p.length) = False := eq_false hp
  have hpb : p.length ≤ 1000000 := by omega
  have hpb2 : p.length ≤ 1000 := by omega
  have HPB := Lib.hid hpb
  clear hp hpb
  by_cases hd : 1000 < d.length
  · have q3 : ((1000 : Int) < (d.length : Int)) = True := eq_true (by omega)
    have q4 : (1000 < d.length) = True := eq_true hd
    clear hd
    go_wp2
    go_ret
    exact ⟨rfl, F2.out⟩
  have q3 : ((1000 : Int) < (d.length : Int)) = False := eq_false (by omega)
  have q4 : (1000 < d.length) = False := eq_false hd
  have hdb : d.length ≤ 1000000 := by omega
  have HDB := Lib.hid hdb
  clear hd hdb
  go_wp2_with fail
  refine (HRR.out.1 _ F2.out FEW.out).mono ?_
  rintro e w3 ⟨rfl, hf⟩
  have F3 := Lib.hid (F2.out.then hf)
  clear hf F2
  cases hrt : rightH l with
  | false =>
    clear hrt
    go_wp2
    go_ret
    exact ⟨rfl, F3.out⟩
  | true =>
  have HRT := Lib.hid ((right_iff l).1 hrt)
  clear hrt
  go_wp2_with fail
  refine (HRR.out.2 _ HDB.out).mono ?_
  rintro e w4 ⟨rfl, hg⟩
  have F4 := Lib.hid (F3.out.then hg.fp)
  clear hg F3
  cases hsd : (split d).isSome with
  | false =>
    clear hsd
    go_wp2
    go_ret
    exact ⟨rfl, F4.out⟩
  | true =>
  clear hsd
  have hn32 : n ≤ 32 := by have := HRT.out.len; have := HV.out.1; omega
  clear hnb
  go_wp2_with fail
  refine (HIF.out.1 _ F4.out FEW.out HPB.out).mono ?_
  intro e w5 hR
  obtain ⟨va, rfl, na⟩ := hR.ex
  have F5 := Lib.hid (F4.out.then hR.fp)
  have NA := Lib.hid (Kp.nsH na)
  clear hR na F4
  have hone := fun m h => one_inst (l := l) (p := p) (d := d) (ep := ep) (m := m) h
  generalize inst l p ep = oa at *
  have HA := Lib.hid hone
  clear hone
  go_wp2_with fail
  refine (HIF.out.2 _ F5.out FEW.out HPB.out).mono ?_
  intro e w6 hR
  obtain ⟨vb, rfl, nb⟩ := hR.ex
  have K6 := Lib.hid (Kp.and (NA.out.later hR.fp) (Kp.and (Kp.nsH nb) (Kp.fp (F5.out.then hR.fp))))
  clear hR nb NA F5 HIF
  have hone := fun m h => one_frz (l := l) (p := p) (d := d) (m := m) h
  generalize frz l p = ob at *
  have HBo := Lib.hid hone
  clear hone
  obtain ⟨ia, hia⟩ : ∃ i, oa.isSome = i := ⟨_, rfl⟩
  obtain ⟨ib, hib⟩ : ∃ i, ob.isSome = i := ⟨_, rfl⟩
  rw [hia, hib]
  have HI := Lib.hid (And.intro hia hib)
  clear hia hib
  go_wp2_with fail
  go_loopw [14, 15] (fun lg i wr => ∃ k : Nat, k ≤ n ∧ i = .int .i64 k ∧ ∃ b : Bool, lg = .bool b ∧ Hid (b = longer (l.take k) p d ∧ Kp (fun W => NsH W va (oa.getD []) ∧ NsH W vb (ob.getD []) ∧ Fp Non w W) wr)) (fun _ i _ => n - (RowKit.intOf i).toNat)
  case atStart => exact ⟨0, Nat.zero_le _, rfl, false, rfl, ⟨rfl, K6.out⟩⟩
  case round =>
    clear K6
    obtain ⟨k, hk, rfl, b, rfl, hR⟩ := hrel
    rename_i wr _
    by_cases hlt : k < n
    · have hkl : k < l.length := by rw [← HV.out.1]; exact hlt
      obtain ⟨g, o, cap', e, _, _, _, hcell⟩ := HV.out.2.at (by omega)
      rw [← HV.out.1] at e
      injection e with e1 e2 e3
      subst e1 e3
      have hnd := (hcell k hkl).keep hR.out.2.now.2.2 (fun h => h)
      have hls := longer_succ (p := p) (d := d) hkl
      have hil := fun W => rIn_g d l[k].d W (sz_of HDB.out (by omega)) (sz_of (FEW.out.szs.p _ (List.getElem_mem hkl)) (by omega))
      have hxl := FEW.out.lp _ (List.getElem_mem hkl)
      have q5 : ((k : Int) < (n : Int)) = True := eq_true (by omega)
      have q6 : (k < n) = True := eq_true hlt
      obtain ⟨x, hx⟩ : ∃ x, x = l[k] := ⟨_, rfl⟩
      rw [← hx] at hnd hls hil hxl
      obtain ⟨xd, xt, xa⟩ := x
      have c0 := hnd.c0
      unfold strV at c0
      simp only at c0 hls hil hxl
      have HLS := Lib.hid hls
      have HIL := Lib.hid hil
      have HK := Lib.hid hlt
      clear hcell hnd hls hil hx hkl hlt
      cases b with
      | true =>
        have hN := Lib.hid (show true = longer (l.take (k + 1)) p d by rw [HLS.out, ← hR.out.1]; rfl)
        have hkn := HK.out
        go_wp2
        go_roundw
        case rel => exact ⟨k + 1, by omega, by go_num, true, rfl, ⟨hN.out, hR.out.2⟩⟩
        case measure => simp [RowKit.intOf]; omega
      | false =>
        go_wp2_with fail
        refine (HIL.out _).mono ?_
        rintro e w7 ⟨rfl, hg⟩
        have K7 := Lib.hid (hR.out.2.later hg.fp)
        have hc := hg.fp.cell c0 (fun h => h)
        clear hg c0
        cases hb : inB d xd with
        | false =>
          have hN := Lib.hid (show false = longer (l.take (k + 1)) p d by rw [HLS.out, ← hR.out.1, hb]; rfl)
          have hkn := HK.out
          clear hb
          go_wp2
          go_roundw
          case rel => exact ⟨k + 1, by omega, by go_num, false, rfl, ⟨hN.out, K7.out⟩⟩
          case measure => simp [RowKit.intOf]; omega
        | true =>
          have hN := Lib.hid (show decide (p.length < xd.length) = longer (l.take (k + 1)) p d by rw [HLS.out, ← hR.out.1, hb]; rfl)
          have hkn := HK.out
          clear hb
          by_cases hll : p.length < xd.length
          · have q7 : ((p.length : Int) < (xd.length : Int)) = True := eq_true (by omega)
            have q8 : (p.length < xd.length) = True := eq_true hll
            have hN2 := Lib.hid (show true = longer (l.take (k + 1)) p d by rw [← hN.out]; exact (decide_eq_true hll).symm)
            clear hll
            go_wp2
            go_roundw
            case rel => exact ⟨k + 1, by omega, by go_num, true, rfl, ⟨hN2.out, K7.out⟩⟩
            case measure => simp [RowKit.intOf]; omega
          · have q7 : ((p.length : Int) < (xd.length : Int)) = False := eq_false (by omega)
            have q8 : (p.length < xd.length) = False := eq_false hll
            have hN2 := Lib.hid (show false = longer (l.take (k + 1)) p d by rw [← hN.out]; exact (decide_eq_false hll).symm)
            clear hll
            go_wp2
            go_roundw
            case rel => exact ⟨k + 1, by omega, by go_num, false, rfl, ⟨hN2.out, K7.out⟩⟩
            case measure => simp [RowKit.intOf]; omega
    · have hke : k = n := by omega
      subst hke
      have q5 : ((k : Int) < (k : Int)) = False := eq_false (by omega)
      have hlg : b = longer l p d := by rw [hR.out.1, HV.out.1, List.take_length]
      have HLG := Lib.hid hlg
      have K8 := Lib.hid hR.out.2
      have hip := fun W => rIn_g d p W (sz_of HDB.out (by omega)) (sz_of HPB.out (by omega))
      obtain ⟨b1, hb1⟩ : ∃ b1, inB d p = b1 := ⟨_, rfl⟩
      rw [hb1] at hip
      have HB1 := Lib.hid hb1
      have HIP := Lib.hid hip
      clear hlt hk hR hlg hip hb1
      go_wp2_with fail
      refine (HIP.out _).mono ?_
      rintro e w8 ⟨rfl, hg⟩
      have K9 := Lib.hid (K8.out.later hg.fp)
      clear hg K8
      have hst : stR l d = stR l d := rfl
      obtain ⟨sl, hsl⟩ : ∃ s, stR l d = s := ⟨_, rfl⟩
      have HSD := Lib.hid (fun W f => HSL.out.1 W f FEW.out HDB.out)
      rw [hsl] at HSD
      have HSP := Lib.hid (fun W f => HSL.out.2 W f FEW.out HPB.out)
      have hA : ia = true → RtH (oa.getD []) ∧ stR (oa.getD []) d = if (b1 && !b) = true then 1 else sl := fun h => by
        obtain ⟨m, hm⟩ := Option.isSome_iff_exists.1 (HI.out.1.trans h)
        have := HA.out m hm
        rw [HB1.out, ← HLG.out, hsl] at this
        rw [hm]; exact this
      have hB : ib = true → RtH (ob.getD []) ∧ stR (ob.getD []) d = (if (b1 && !b) = true then 2 else sl) ∧ stR l p = 1 := fun h => by
        obtain ⟨m, hm⟩ := Option.isSome_iff_exists.1 (HI.out.2.trans h)
        have := HBo.out m hm
        rw [HB1.out, ← HLG.out, hsl] at this
        rw [hm]; exact this
      have HAA := Lib.hid hA
      have HBB := Lib.hid hB
      clear hA hB hst hsl HSL HA HBo HI HLG HB1 HIP HRR HG HRT
      generalize oa.getD [] = ma at *
      generalize ob.getD [] = mb at *
      generalize stR l p = sp at *
      cases b1 with
      | false =>
        cases ia with
        | false =>
          cases ib with
          | false =>
            have hq0 : (sl == sl) = true := beq_self_eq_true sl
            have hq1 : (sl != sl) = false := by simp
            go_wp2
            go_ret
            exact ⟨rfl, K9.out.now.2.2⟩
          | true =>
            have HB9 := Lib.hid (HBB.out (by trivial)).1
            have HBS := Lib.hid (fun W (h : NsH W vb mb) => StateH_c vb mb d W h HB9.out.szs HDB.out)
            rw [(HBB.out (by trivial)).2.1] at HBS
            simp only [Bool.not_true, Bool.not_false, Bool.and_true, Bool.and_false, Bool.false_and, Bool.false_eq_true, if_true, if_false] at HBS
            have HBR := Lib.hid (fun W (h : NsH W vb mb) => rRightH_c vb mb W h HB9.out.szs.p HB9.out.szs.n)
            rw [(right_iff mb).2 HB9.out] at HBR
            have HSQ := HSP
            rw [(HBB.out (by trivial)).2.2] at HSQ
            have hq0 : (sl == sl) = true := beq_self_eq_true sl
            have hq1 : (sl != sl) = false := by simp
            go_wp2_with fail
            refine (HBS.out _ K9.out.now.2.1).mono ?_
            rintro e wx1 ⟨rfl, hf⟩
            have Kx1 := Lib.hid (K9.out.later hf)
            clear hf
            go_wp2_with fail
            refine (HSD.out _ Kx1.out.now.2.2).mono ?_
            rintro e wx2 ⟨rfl, hf⟩
            have Kx2 := Lib.hid (Kx1.out.later hf)
            clear hf
            go_wp2_with fail
            refine (HBR.out _ Kx2.out.now.2.1).mono ?_
            rintro e wx3 ⟨rfl, hf⟩
            have Kx3 := Lib.hid (Kx2.out.later hf)
            clear hf
            go_wp2_with fail
            refine (HSQ.out _ Kx3.out.now.2.2).mono ?_
            rintro e wx4 ⟨rfl, hf⟩
            have Kx4 := Lib.hid (Kx3.out.later hf)
            clear hf
            go_wp2
            go_ret
            exact ⟨rfl, Kx4.out.now.2.2⟩
        | true =>
          cases ib with
          | false =>
            have HA1 := Lib.hid (HAA.out (by trivial)).1
            have HAS := Lib.hid (fun W (h : NsH W va ma) => StateH_c va ma d W h HA1.out.szs HDB.out)
            rw [(HAA.out (by trivial)).2] at HAS
            simp only [Bool.not_true, Bool.not_false, Bool.and_true, Bool.and_false, Bool.false_and, Bool.false_eq_true, if_true, if_false] at HAS
            have HAR := Lib.hid (fun W (h : NsH W va ma) => rRightH_c va ma W h HA1.out.szs.p HA1.out.szs.n)
            rw [(right_iff ma).2 HA1.out] at HAR
            have hq0 : (sl == sl) = true := beq_self_eq_true sl
            have hq1 : (sl != sl) = false := by simp
            go_wp2_with fail
            refine (HAS.out _ K9.out.now.1).mono ?_
            rintro e wx1 ⟨rfl, hf⟩
            have Kx1 := Lib.hid (K9.out.later hf)
            clear hf
            go_wp2_with fail
            refine (HSD.out _ Kx1.out.now.2.2).mono ?_
            rintro e wx2 ⟨rfl, hf⟩
            have Kx2 := Lib.hid (Kx1.out.later hf)
            clear hf
            go_wp2_with fail
            refine (HAR.out _ Kx2.out.now.1).mono ?_
            rintro e wx3 ⟨rfl, hf⟩
            have Kx3 := Lib.hid (Kx2.out.later hf)
            clear hf
            go_wp2
            go_ret
            exact ⟨rfl, Kx3.out.now.2.2⟩
          | true =>
            have HA1 := Lib.hid (HAA.out (by trivial)).1
            have HAS := Lib.hid (fun W (h : NsH W va ma) => StateH_c va ma d W h HA1.out.szs HDB.out)
            rw [(HAA.out (by trivial)).2] at HAS
            simp only [Bool.not_true, Bool.not_false, Bool.and_true, Bool.and_false, Bool.false_and, Bool.false_eq_true, if_true, if_false] at HAS
            have HAR := Lib.hid (fun W (h : NsH W va ma) => rRightH_c va ma W h HA1.out.szs.p HA1.out.szs.n)
            rw [(right_iff ma).2 HA1.out] at HAR
            have HB9 := Lib.hid (HBB.out (by trivial)).1
            have HBS := Lib.hid (fun W (h : NsH W vb mb) => StateH_c vb mb d W h HB9.out.szs HDB.out)
            rw [(HBB.out (by trivial)).2.1] at HBS
            simp only [Bool.not_true, Bool.not_false, Bool.and_true, Bool.and_false, Bool.false_and, Bool.false_eq_true, if_true, if_false] at HBS
            have HBR := Lib.hid (fun W (h : NsH W vb mb) => rRightH_c vb mb W h HB9.out.szs.p HB9.out.szs.n)
            rw [(right_iff mb).2 HB9.out] at HBR
            have HSQ := HSP
            rw [(HBB.out (by trivial)).2.2] at HSQ
            have hq0 : (sl == sl) = true := beq_self_eq_true sl
            have hq1 : (sl != sl) = false := by simp
            go_wp2_with fail
            refine (HAS.out _ K9.out.now.1).mono ?_
            rintro e wx1 ⟨rfl, hf⟩
            have Kx1 := Lib.hid (K9.out.later hf)
            clear hf
            go_wp2_with fail
            refine (HSD.out _ Kx1.out.now.2.2).mono ?_
            rintro e wx2 ⟨rfl, hf⟩
            have Kx2 := Lib.hid (Kx1.out.later hf)
            clear hf
            go_wp2_with fail
            refine (HBS.out _ Kx2.out.now.2.1).mono ?_
            rintro e wx3 ⟨rfl, hf⟩
            have Kx3 := Lib.hid (Kx2.out.later hf)
            clear hf
            go_wp2_with fail
            refine (HSD.out _ Kx3.out.now.2.2).mono ?_
            rintro e wx4 ⟨rfl, hf⟩
            have Kx4 := Lib.hid (Kx3.out.later hf)
            clear hf
            go_wp2_with fail
            refine (HAR.out _ Kx4.out.now.1).mono ?_
            rintro e wx5 ⟨rfl, hf⟩
            have Kx5 := Lib.hid (Kx4.out.later hf)
            clear hf
            go_wp2_with fail
            refine (HBR.out _ Kx5.out.now.2.1).mono ?_
            rintro e wx6 ⟨rfl, hf⟩
            have Kx6 := Lib.hid (Kx5.out.later hf)
            clear hf
            go_wp2_with fail
            refine (HSQ.out _ Kx6.out.now.2.2).mono ?_
            rintro e wx7 ⟨rfl, hf⟩
            have Kx7 := Lib.hid (Kx6.out.later hf)
            clear hf
            go_wp2
            go_ret
            exact ⟨rfl, Kx7.out.now.2.2⟩
      | true =>
        cases b with
        | false =>
          cases ia with
          | false =>
            cases ib with
            | false =>
              have hq0 : (sl == sl) = true := beq_self_eq_true sl
              have hq1 : (sl != sl) = false := by simp
              go_wp2
              go_ret
              exact ⟨rfl, K9.out.now.2.2⟩
            | true =>
              have HB9 := Lib.hid (HBB.out (by trivial)).1
              have HBS := Lib.hid (fun W (h : NsH W vb mb) => StateH_c vb mb d W h HB9.out.szs HDB.out)
              rw [(HBB.out (by trivial)).2.1] at HBS
              simp only [Bool.not_true, Bool.not_false, Bool.and_true, Bool.and_false, Bool.false_and, Bool.false_eq_true, if_true, if_false] at HBS
              have HBR := Lib.hid (fun W (h : NsH W vb mb) => rRightH_c vb mb W h HB9.out.szs.p HB9.out.szs.n)
              rw [(right_iff mb).2 HB9.out] at HBR
              have HSQ := HSP
              rw [(HBB.out (by trivial)).2.2] at HSQ
              have hq0 : (sl == sl) = true := beq_self_eq_true sl
              have hq1 : (sl != sl) = false := by simp
              go_wp2_with fail
              refine (HBS.out _ K9.out.now.2.1).mono ?_
              rintro e wx1 ⟨rfl, hf⟩
              have Kx1 := Lib.hid (K9.out.later hf)
              clear hf
              go_wp2_with fail
              refine (HBR.out _ Kx1.out.now.2.1).mono ?_
              rintro e wx2 ⟨rfl, hf⟩
              have Kx2 := Lib.hid (Kx1.out.later hf)
              clear hf
              go_wp2_with fail
              refine (HSQ.out _ Kx2.out.now.2.2).mono ?_
              rintro e wx3 ⟨rfl, hf⟩
              have Kx3 := Lib.hid (Kx2.out.later hf)
              clear hf
              go_wp2
              go_ret
              exact ⟨rfl, Kx3.out.now.2.2⟩
          | true =>
            cases ib with
            | false =>
              have HA1 := Lib.hid (HAA.out (by trivial)).1
              have HAS := Lib.hid (fun W (h : NsH W va ma) => StateH_c va ma d W h HA1.out.szs HDB.out)
              rw [(HAA.out (by trivial)).2] at HAS
              simp only [Bool.not_true, Bool.not_false, Bool.and_true, Bool.and_false, Bool.false_and, Bool.false_eq_true, if_true, if_false] at HAS
              have HAR := Lib.hid (fun W (h : NsH W va ma) => rRightH_c va ma W h HA1.out.szs.p HA1.out.szs.n)
              rw [(right_iff ma).2 HA1.out] at HAR
              have hq0 : (sl == sl) = true := beq_self_eq_true sl
              have hq1 : (sl != sl) = false := by simp
              go_wp2_with fail
              refine (HAS.out _ K9.out.now.1).mono ?_
              rintro e wx1 ⟨rfl, hf⟩
              have Kx1 := Lib.hid (K9.out.later hf)
              clear hf
              go_wp2_with fail
              refine (HAR.out _ Kx1.out.now.1).mono ?_
              rintro e wx2 ⟨rfl, hf⟩
              have Kx2 := Lib.hid (Kx1.out.later hf)
              clear hf
              go_wp2
              go_ret
              exact ⟨rfl, Kx2.out.now.2.2⟩
            | true =>
              have HA1 := Lib.hid (HAA.out (by trivial)).1
              have HAS := Lib.hid (fun W (h : NsH W va ma) => StateH_c va ma d W h HA1.out.szs HDB.out)
              rw [(HAA.out (by trivial)).2] at HAS
              simp only [Bool.not_true, Bool.not_false, Bool.and_true, Bool.and_false, Bool.false_and, Bool.false_eq_true, if_true, if_false] at HAS
              have HAR := Lib.hid (fun W (h : NsH W va ma) => rRightH_c va ma W h HA1.out.szs.p HA1.out.szs.n)
              rw [(right_iff ma).2 HA1.out] at HAR
              have HB9 := Lib.hid (HBB.out (by trivial)).1
              have HBS := Lib.hid (fun W (h : NsH W vb mb) => StateH_c vb mb d W h HB9.out.szs HDB.out)
              rw [(HBB.out (by trivial)).2.1] at HBS
              simp only [Bool.not_true, Bool.not_false, Bool.and_true, Bool.and_false, Bool.false_and, Bool.false_eq_true, if_true, if_false] at HBS
              have HBR := Lib.hid (fun W (h : NsH W vb mb) => rRightH_c vb mb W h HB9.out.szs.p HB9.out.szs.n)
              rw [(right_iff mb).2 HB9.out] at HBR
              have HSQ := HSP
              rw [(HBB.out (by trivial)).2.2] at HSQ
              have hq0 : (sl == sl) = true := beq_self_eq_true sl
              have hq1 : (sl != sl) = false := by simp
              go_wp2_with fail
              refine (HAS.out _ K9.out.now.1).mono ?_
              rintro e wx1 ⟨rfl, hf⟩
              have Kx1 := Lib.hid (K9.out.later hf)
              clear hf
              go_wp2_with fail
              refine (HBS.out _ Kx1.out.now.2.1).mono ?_
              rintro e wx2 ⟨rfl, hf⟩
              have Kx2 := Lib.hid (Kx1.out.later hf)
              clear hf
              go_wp2_with fail
              refine (HAR.out _ Kx2.out.now.1).mono ?_
              rintro e wx3 ⟨rfl, hf⟩
              have Kx3 := Lib.hid (Kx2.out.later hf)
              clear hf
              go_wp2_with fail
              refine (HBR.out _ Kx3.out.now.2.1).mono ?_
              rintro e wx4 ⟨rfl, hf⟩
              have Kx4 := Lib.hid (Kx3.out.later hf)
              clear hf
              go_wp2_with fail
              refine (HSQ.out _ Kx4.out.now.2.2).mono ?_
              rintro e wx5 ⟨rfl, hf⟩
              have Kx5 := Lib.hid (Kx4.out.later hf)
              clear hf
              go_wp2
              go_ret
              exact ⟨rfl, Kx5.out.now.2.2⟩
        | true =>
          cases ia with
          | false =>
            cases ib with
            | false =>
              have hq0 : (sl == sl) = true := beq_self_eq_true sl
              have hq1 : (sl != sl) = false := by simp
              go_wp2
              go_ret
              exact ⟨rfl, K9.out.now.2.2⟩
            | true =>
              have HB9 := Lib.hid (HBB.out (by trivial)).1
              have HBS := Lib.hid (fun W (h : NsH W vb mb) => StateH_c vb mb d W h HB9.out.szs HDB.out)
              rw [(HBB.out (by trivial)).2.1] at HBS
              simp only [Bool.not_true, Bool.not_false, Bool.and_true, Bool.and_false, Bool.false_and, Bool.false_eq_true, if_true, if_false] at HBS
              have HBR := Lib.hid (fun W (h : NsH W vb mb) => rRightH_c vb mb W h HB9.out.szs.p HB9.out.szs.n)
              rw [(right_iff mb).2 HB9.out] at HBR
              have HSQ := HSP
              rw [(HBB.out (by trivial)).2.2] at HSQ
              have hq0 : (sl == sl) = true := beq_self_eq_true sl
              have hq1 : (sl != sl) = false := by simp
              go_wp2_with fail
              refine (HBS.out _ K9.out.now.2.1).mono ?_
              rintro e wx1 ⟨rfl, hf⟩
              have Kx1 := Lib.hid (K9.out.later hf)
              clear hf
              go_wp2_with fail
              refine (HSD.out _ Kx1.out.now.2.2).mono ?_
              rintro e wx2 ⟨rfl, hf⟩
              have Kx2 := Lib.hid (Kx1.out.later hf)
              clear hf
              go_wp2_with fail
              refine (HBR.out _ Kx2.out.now.2.1).mono ?_
              rintro e wx3 ⟨rfl, hf⟩
              have Kx3 := Lib.hid (Kx2.out.later hf)
              clear hf
              go_wp2_with fail
              refine (HSQ.out _ Kx3.out.now.2.2).mono ?_
              rintro e wx4 ⟨rfl, hf⟩
              have Kx4 := Lib.hid (Kx3.out.later hf)
              clear hf
              go_wp2
              go_ret
              exact ⟨rfl, Kx4.out.now.2.2⟩
          | true =>
            cases ib with
            | false =>
              have HA1 := Lib.hid (HAA.out (by trivial)).1
              have HAS := Lib.hid (fun W (h : NsH W va ma) => StateH_c va ma d W h HA1.out.szs HDB.out)
              rw [(HAA.out (by trivial)).2] at HAS
              simp only [Bool.not_true, Bool.not_false, Bool.and_true, Bool.and_false, Bool.false_and, Bool.false_eq_true, if_true, if_false] at HAS
              have HAR := Lib.hid (fun W (h : NsH W va ma) => rRightH_c va ma W h HA1.out.szs.p HA1.out.szs.n)
              rw [(right_iff ma).2 HA1.out] at HAR
              have hq0 : (sl == sl) = true := beq_self_eq_true sl
              have hq1 : (sl != sl) = false := by simp
              go_wp2_with fail
              refine (HAS.out _ K9.out.now.1).mono ?_
              rintro e wx1 ⟨rfl, hf⟩
              have Kx1 := Lib.hid (K9.out.later hf)
              clear hf
              go_wp2_with fail
              refine (HSD.out _ Kx1.out.now.2.2).mono ?_
              rintro e wx2 ⟨rfl, hf⟩
              have Kx2 := Lib.hid (Kx1.out.later hf)
              clear hf
              go_wp2_with fail
              refine (HAR.out _ Kx2.out.now.1).mono ?_
              rintro e wx3 ⟨rfl, hf⟩
              have Kx3 := Lib.hid (Kx2.out.later hf)
              clear hf
              go_wp2
              go_ret
              exact ⟨rfl, Kx3.out.now.2.2⟩
            | true =>
              have HA1 := Lib.hid (HAA.out (by trivial)).1
              have HAS := Lib.hid (fun W (h : NsH W va ma) => StateH_c va ma d W h HA1.out.szs HDB.out)
              rw [(HAA.out (by trivial)).2] at HAS
              simp only [Bool.not_true, Bool.not_false, Bool.and_true, Bool.and_false, Bool.false_and, Bool.false_eq_true, if_true, if_false] at HAS
              have HAR := Lib.hid (fun W (h : NsH W va ma) => rRightH_c va ma W h HA1.out.szs.p HA1.out.szs.n)
              rw [(right_iff ma).2 HA1.out] at HAR
              have HB9 := Lib.hid (HBB.out (by trivial)).1
              have HBS := Lib.hid (fun W (h : NsH W vb mb) => StateH_c vb mb d W h HB9.out.szs HDB.out)
              rw [(HBB.out (by trivial)).2.1] at HBS
              simp only [Bool.not_true, Bool.not_false, Bool.and_true, Bool.and_false, Bool.false_and, Bool.false_eq_true, if_true, if_false] at HBS
              have HBR := Lib.hid (fun W (h : NsH W vb mb) => rRightH_c vb mb W h HB9.out.szs.p HB9.out.szs.n)
              rw [(right_iff mb).2 HB9.out] at HBR
              have HSQ := HSP
              rw [(HBB.out (by trivial)).2.2] at HSQ
              have hq0 : (sl == sl) = true := beq_self_eq_true sl
              have hq1 : (sl != sl) = false := by simp
              go_wp2_with fail
              refine (HAS.out _ K9.out.now.1).mono ?_
              rintro e wx1 ⟨rfl, hf⟩
              have Kx1 := Lib.hid (K9.out.later hf)
              clear hf
              go_wp2_with fail
              refine (HSD.out _ Kx1.out.now.2.2).mono ?_
              rintro e wx2 ⟨rfl, hf⟩
              have Kx2 := Lib.hid (Kx1.out.later hf)
              clear hf
              go_wp2_with fail
              refine (HBS.out _ Kx2.out.now.2.1).mono ?_
              rintro e wx3 ⟨rfl, hf⟩
              have Kx3 := Lib.hid (Kx2.out.later hf)
              clear hf
              go_wp2_with fail
              refine (HSD.out _ Kx3.out.now.2.2).mono ?_
              rintro e wx4 ⟨rfl, hf⟩
              have Kx4 := Lib.hid (Kx3.out.later hf)
              clear hf
              go_wp2_with fail
              refine (HAR.out _ Kx4.out.now.1).mono ?_
              rintro e wx5 ⟨rfl, hf⟩
              have Kx5 := Lib.hid (Kx4.out.later hf)
              clear hf
              go_wp2_with fail
              refine (HBR.out _ Kx5.out.now.2.1).mono ?_
              rintro e wx6 ⟨rfl, hf⟩
              have Kx6 := Lib.hid (Kx5.out.later hf)
              clear hf
              go_wp2_with fail
              refine (HSQ.out _ Kx6.out.now.2.2).mono ?_
              rintro e wx7 ⟨rfl, hf⟩
              have Kx7 := Lib.hid (Kx6.out.later hf)
              clear hf
              go_wp2
              go_ret
              exact ⟨rfl, Kx7.out.now.2.2⟩
end Go.Proofs.Ytcjpgenlhphapaa
