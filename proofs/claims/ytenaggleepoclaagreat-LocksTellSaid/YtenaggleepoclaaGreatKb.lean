/- The document's put: a hold in its place (gen_kb.py) -/
import Derived.Test.YtenaggleepoclaaGreatKa
namespace Go.Proofs.YtenaggleepoclaaGreat
set_option maxRecDepth 20000
set_option linter.unusedVariables false
set_option linter.unusedSimpArgs false
open Go.RowKit Pm


theorem OwH.lower {lo lo' : Nat} {w : World} {v : Value} {l : List Hl} (h : OwH lo w v l) (k : lo' ≤ lo) : OwH lo' w v l := by
  rcases h.ways with ⟨rfl, rfl⟩ | ⟨G, cap, rfl, h1, h2⟩
  · exact OwH.nil _ _
  · exact OwH.row h1 (Nat.le_trans k h2)
set_option maxHeartbeats 8000000 in
theorem put_r (v : Value) (l : List Hl) (sd : Bs) (st sa : Int) (w : World) (hv : NsH w v l) (hu : UpH l) (hn : l.length ≤ 40000) :
    Calls Tryz.prog 36 #[v, .agg #[.string (B sd), .int .i64 st, .int .i64 sa]] w fun e w' => ∃ v', e = .returned v' ∧ HlR w (insH l ⟨sd, st, sa⟩) v' w' := by
  obtain ⟨ao, cap, rfl⟩ := hv.shape
  obtain ⟨n, hnn⟩ : ∃ n, n = l.length := ⟨_, rfl⟩
  have hfa := fp_alloc w (.cells #[.string (B sd), .int .i64 st, .int .i64 sa] TH)
  have hbx := heap_alloc_new w (.cells #[.string (B sd), .int .i64 st, .int .i64 sa] TH)
  have HX := Lib.hid (And.intro hnn (And.intro (hv.non hfa) (And.intro hu (And.intro hfa hbx))))
  rw [← hnn]
  have hnb : n ≤ 40000 := by omega
  clear hv hu hn hnn hfa hbx
  go_enter Tryz.func36, Tryz.ntmps36
  go_wp2_with fail
  generalize (w.alloc (.cells #[.string (B sd), .int .i64 st, .int .i64 sa] TH)) = W0 at *
  have H0 : Hid (OwH W0.heap.size W0 (.slice none 0 0) [] ∧ Fp Non W0 W0 ∧ InsSt lt Hl.d l (⟨sd, st, sa⟩ : Hl) 0 [] false) := ⟨OwH.nil _ _, Fp.refl _ _, InsSt.start⟩
  have BOX := Lib.hid (fun W (f : Fp Non W0 W) => boxP3 (f.heap HX.out.2.2.2.2 (fun h => h)))
  go_loopw [5, 6, 7] (fun z b i wr => ∃ k : Nat, k ≤ n ∧ i = .int .i64 k ∧ ∃ bb : Bool, b = .bool bb ∧ ∃ out, Hid (OwH W0.heap.size wr z out ∧ Fp Non W0 wr ∧ InsSt lt Hl.d l (⟨sd, st, sa⟩ : Hl) k out bb)) (fun _ _ i _ => n - (RowKit.intOf i).toNat)
  case atStart => exact ⟨0, Nat.zero_le _, rfl, false, rfl, [], H0.out⟩
  case round =>
    clear H0
    obtain ⟨k, hk, rfl, bb, rfl, out, hR⟩ := hrel
    rename World => wr
    by_cases hlt : k < n
    · have hkl : k < l.length := by rw [← HX.out.1]; exact hlt
      obtain ⟨g, o, cap', e, _, _, _, hcell⟩ := HX.out.2.1.at (by omega)
      injection e with e1 e2 e3
      subst e1 e3
      clear e2
      have hnd := fun W (f : Fp Non W0 W) => (hcell k hkl).keep f (fun h => h)
      have hol : out.length ≤ 2 * k + 2 := by
        cases bb with
        | false => rw [(hR.out.2.2.no rfl).1, List.length_take]; omega
        | true =>
          rw [(hR.out.2.2.yes rfl).1, List.length_append, List.length_cons]
          have h1 := List.length_filter_le (fun x : Hl => lt x.d sd) (l.take k)
          have h2 := List.length_filter_le (fun x : Hl => lt sd x.d) (l.take k)
          rw [List.length_take] at h1 h2
          simp only
          omega
      have hlow := fun (h : bb = false) (c : lt l[k].d sd = true) => (show InsSt lt Hl.d l (⟨sd, st, sa⟩ : Hl) k out false from h ▸ hR.out.2.2).low hkl c
      have hhit := fun (h : bb = false) (c : l[k].d = sd) => (show InsSt lt Hl.d l (⟨sd, st, sa⟩ : Hl) k out false from h ▸ hR.out.2.2).hit lt_as lt_irrefl hkl c
      have hover := fun (h : bb = false) (c : lt sd l[k].d = true) => (show InsSt lt Hl.d l (⟨sd, st, sa⟩ : Hl) k out false from h ▸ hR.out.2.2).over lt_as hkl c
      have hmore := fun (h : bb = true) => (show InsSt lt Hl.d l (⟨sd, st, sa⟩ : Hl) k out true from h ▸ hR.out.2.2).more lt_as lt_tr HX.out.2.2.1 hkl
      obtain ⟨x, hx⟩ : ∃ x, x = l[k] := ⟨_, rfl⟩
      simp only [← hx] at hnd hlow hhit hover hmore
      clear hx hcell hkl
      obtain ⟨xd, xt, xa⟩ := x
      simp only at hlow hhit hover hmore
      have HC := Lib.hid hnd
      have q3 : ((k : Int) < (n : Int)) = True := eq_true (by omega)
      have q4 : (k < n) = True := eq_true hlt
      have HL := Lib.hid (And.intro hlt (And.intro hol (And.intro hlow (And.intro hhit (And.intro hover hmore)))))
      have HO := Lib.hid (And.intro hR.out.1 hR.out.2.1)
      clear hlt hol hlow hhit hover hmore hnd
      cases bb with
      | true =>
        obtain ⟨hgt, hst⟩ := HL.out.2.2.2.2.2 rfl
        have hxne : xd ≠ sd := (lt_ne hgt).symm
        have e3 : (xd != sd) = true := by simp [hxne]
        have e4 : (xd == sd) = false := beq_eq_false_iff_ne.2 hxne
        have HST := Lib.hid hst
        clear hxne hgt hst hR
        have hc1 := HC.out _ (HO.out.2)
        have y0 := hc1.c0; have y1 := hc1.c1; have y2 := hc1.c2
        unfold strV at y0
        simp only at y0 y1 y2
        obtain ⟨bx0, bx1, bx2⟩ := BOX.out _ (HO.out.2)
        clear hc1
        go_wp2_with fail
        go_quiet (fail)
        generalize hwd : (World.drewN wr _) = wq1 at *
        have Fq1 := Lib.hid (show Fp Non W0 wq1 from by rw [← hwd]; exact (HO.out.2).drewN _)
        have Oq1 := Lib.hid (show OwH W0.heap.size wq1 u5 out from by rw [← hwd]; exact (HO.out.1).non ((Fp.refl Non wr).drewN _))
        clear hwd y0 y1 y2 bx0 bx1 bx2
        have hc4 := HC.out _ (Fq1.out)
        have y0 := hc4.c0; have y1 := hc4.c1; have y2 := hc4.c2
        unfold strV at y0
        simp only at y0 y1 y2
        obtain ⟨bx0, bx1, bx2⟩ := BOX.out _ (Fq1.out)
        clear hc4
        go_wp2_with fail
        go_quiet (fail)
        generalize hwd : (World.drewN wq1 _) = wq2 at *
        have Fq2 := Lib.hid (show Fp Non W0 wq2 from by rw [← hwd]; exact (Fq1.out).drewN _)
        have Oq2 := Lib.hid (show OwH W0.heap.size wq2 u5 (out) from by rw [← hwd]; exact (Oq1.out).non ((Fp.refl Non wq1).drewN _))
        clear hwd y0 y1 y2 bx0 bx1 bx2
        have hc5 := HC.out _ (Fq2.out)
        have y0 := hc5.c0; have y1 := hc5.c1; have y2 := hc5.c2
        unfold strV at y0
        simp only at y0 y1 y2
        obtain ⟨bx0, bx1, bx2⟩ := BOX.out _ (Fq2.out)
        clear hc5
        have hap := app_oneH wq2 W0.heap.size u5 (out) ⟨xd, xt, xa⟩ TLH Oq2.out (by have := HL.out.2.1; omega) (Fq2.out).size
        rw [show (⟨xd, xt, xa⟩ : Hl).d = xd from rfl, show (⟨xd, xt, xa⟩ : Hl).t = xt from rfl, show (⟨xd, xt, xa⟩ : Hl).a = xa from rfl] at hap
        unfold strV at hap
        have hlw := (Oq2.out).low
        have HA4 := Lib.hid (And.intro hap (And.intro hlw (Fq2.out)))
        clear hap hlw
        go_wp2_with (at_builtin; go_must (refine wpList_app rfl _ _ _ _ rfl _ _ rfl rfl _ HA4.out.1 ?_))
        intro v4 w4 hA4
        have F4 := Lib.hid (HA4.out.2.2.trans hA4.fp (fun j hj => .inr (HA4.out.2.1 j hj)))
        have O4 := Lib.hid hA4.own
        clear hA4 HA4
        have hM : Hid (OwH W0.heap.size w4 v4 (out ++ [⟨xd, xt, xa⟩]) ∧ Fp Non W0 w4 ∧ InsSt lt Hl.d l (⟨sd, st, sa⟩ : Hl) (k + 1) (out ++ [⟨xd, xt, xa⟩]) true) := ⟨O4.out, F4.out, HST.out⟩
        have hkn := HL.out.1
        go_wp2_with fail
        go_roundw
        case rel => exact ⟨k + 1, by omega, by go_num, true, rfl, _, hM⟩
        case measure => simp [RowKit.intOf]; omega
      | false =>
        by_cases c1 : lt xd sd = true
        · have e1 : Op.bytesLess xd sd = true := c1
          have e2 : (!Op.bytesLess xd sd) = false := by rw [e1]; rfl
          have hxne : xd ≠ sd := lt_ne c1
          have e3 : (xd != sd) = true := by simp [hxne]
          have e4 : (xd == sd) = false := beq_eq_false_iff_ne.2 hxne
          have HST := Lib.hid (HL.out.2.2.1 rfl c1)
          clear hxne c1 hR
          have hc1 := HC.out _ (HO.out.2)
          have y0 := hc1.c0; have y1 := hc1.c1; have y2 := hc1.c2
          unfold strV at y0
          simp only at y0 y1 y2
          obtain ⟨bx0, bx1, bx2⟩ := BOX.out _ (HO.out.2)
          clear hc1
          go_wp2_with fail
          go_quiet (fail)
          generalize hwd : (World.drewN wr _) = wq1 at *
          have Fq1 := Lib.hid (show Fp Non W0 wq1 from by rw [← hwd]; exact (HO.out.2).drewN _)
          have Oq1 := Lib.hid (show OwH W0.heap.size wq1 u5 out from by rw [← hwd]; exact (HO.out.1).non ((Fp.refl Non wr).drewN _))
          clear hwd y0 y1 y2 bx0 bx1 bx2
          have hc4 := HC.out _ (Fq1.out)
          have y0 := hc4.c0; have y1 := hc4.c1; have y2 := hc4.c2
          unfold strV at y0
          simp only at y0 y1 y2
          obtain ⟨bx0, bx1, bx2⟩ := BOX.out _ (Fq1.out)
          clear hc4
          go_wp2_with fail
          go_quiet (fail)
          generalize hwd : (World.drewN wq1 _) = wq2 at *
          have Fq2 := Lib.hid (show Fp Non W0 wq2 from by rw [← hwd]; exact (Fq1.out).drewN _)
          have Oq2 := Lib.hid (show OwH W0.heap.size wq2 u5 (out) from by rw [← hwd]; exact (Oq1.out).non ((Fp.refl Non wq1).drewN _))
          clear hwd y0 y1 y2 bx0 bx1 bx2
          have hc5 := HC.out _ (Fq2.out)
          have y0 := hc5.c0; have y1 := hc5.c1; have y2 := hc5.c2
          unfold strV at y0
          simp only at y0 y1 y2
          obtain ⟨bx0, bx1, bx2⟩ := BOX.out _ (Fq2.out)
          clear hc5
          have hap := app_oneH wq2 W0.heap.size u5 (out) ⟨xd, xt, xa⟩ TLH Oq2.out (by have := HL.out.2.1; omega) (Fq2.out).size
          rw [show (⟨xd, xt, xa⟩ : Hl).d = xd from rfl, show (⟨xd, xt, xa⟩ : Hl).t = xt from rfl, show (⟨xd, xt, xa⟩ : Hl).a = xa from rfl] at hap
          unfold strV at hap
          have hlw := (Oq2.out).low
          have HA4 := Lib.hid (And.intro hap (And.intro hlw (Fq2.out)))
          clear hap hlw
          go_wp2_with (at_builtin; go_must (refine wpList_app rfl _ _ _ _ rfl _ _ rfl rfl _ HA4.out.1 ?_))
          intro v4 w4 hA4
          have F4 := Lib.hid (HA4.out.2.2.trans hA4.fp (fun j hj => .inr (HA4.out.2.1 j hj)))
          have O4 := Lib.hid hA4.own
          clear hA4 HA4
          have hM : Hid (OwH W0.heap.size w4 v4 (out ++ [⟨xd, xt, xa⟩]) ∧ Fp Non W0 w4 ∧ InsSt lt Hl.d l (⟨sd, st, sa⟩ : Hl) (k + 1) (out ++ [⟨xd, xt, xa⟩]) false) := ⟨O4.out, F4.out, HST.out⟩
          have hkn := HL.out.1
          go_wp2_with fail
          go_roundw
          case rel => exact ⟨k + 1, by omega, by go_num, false, rfl, _, hM⟩
          case measure => simp [RowKit.intOf]; omega
        · by_cases c2 : xd = sd
          · have e1 : Op.bytesLess xd sd = false := by rw [c2]; exact lt_irrefl sd
            have e2 : (!Op.bytesLess xd sd) = true := by rw [e1]; rfl
            have e3 : (xd != sd) = false := by simp [c2]
            have e4 : (xd == sd) = true := beq_iff_eq.2 c2
            have HST := Lib.hid (HL.out.2.2.2.1 rfl c2)
            clear c1 c2 hR
            have hc1 := HC.out _ (HO.out.2)
            have y0 := hc1.c0; have y1 := hc1.c1; have y2 := hc1.c2
            unfold strV at y0
            simp only at y0 y1 y2
            obtain ⟨bx0, bx1, bx2⟩ := BOX.out _ (HO.out.2)
            clear hc1
            go_wp2_with fail
            go_quiet (fail)
            generalize hwd : (World.drewN wr _) = wq1 at *
            have Fq1 := Lib.hid (show Fp Non W0 wq1 from by rw [← hwd]; exact (HO.out.2).drewN _)
            have Oq1 := Lib.hid (show OwH W0.heap.size wq1 u5 out from by rw [← hwd]; exact (HO.out.1).non ((Fp.refl Non wr).drewN _))
            clear hwd y0 y1 y2 bx0 bx1 bx2
            have hc2 := HC.out _ (Fq1.out)
            have y0 := hc2.c0; have y1 := hc2.c1; have y2 := hc2.c2
            unfold strV at y0
            simp only at y0 y1 y2
            obtain ⟨bx0, bx1, bx2⟩ := BOX.out _ (Fq1.out)
            clear hc2
            have hap := app_oneH wq1 W0.heap.size u5 out ⟨sd, st, sa⟩ TLH Oq1.out (by have := HL.out.2.1; omega) (Fq1.out).size
            rw [show (⟨sd, st, sa⟩ : Hl).d = sd from rfl, show (⟨sd, st, sa⟩ : Hl).t = st from rfl, show (⟨sd, st, sa⟩ : Hl).a = sa from rfl] at hap
            unfold strV at hap
            have hlw := (Oq1.out).low
            have HA4 := Lib.hid (And.intro hap (And.intro hlw (Fq1.out)))
            clear hap hlw
            go_wp2_with (at_builtin; go_must (refine wpList_app rfl _ _ _ _ rfl _ _ rfl rfl _ HA4.out.1 ?_))
            intro v4 w4 hA4
            have F4 := Lib.hid (HA4.out.2.2.trans hA4.fp (fun j hj => .inr (HA4.out.2.1 j hj)))
            have O4 := Lib.hid hA4.own
            clear hA4 HA4
            clear y0 y1 y2 bx0 bx1 bx2
            have hc3 := HC.out _ (F4.out)
            have y0 := hc3.c0; have y1 := hc3.c1; have y2 := hc3.c2
            unfold strV at y0
            simp only at y0 y1 y2
            obtain ⟨bx0, bx1, bx2⟩ := BOX.out _ (F4.out)
            clear hc3
            go_wp2_with fail
            go_quiet (fail)
            generalize hwd : (World.drewN w4 _) = wq2 at *
            have Fq2 := Lib.hid (show Fp Non W0 wq2 from by rw [← hwd]; exact (F4.out).drewN _)
            have Oq2 := Lib.hid (show OwH W0.heap.size wq2 v4 (out ++ [⟨sd, st, sa⟩]) from by rw [← hwd]; exact (O4.out).non ((Fp.refl Non w4).drewN _))
            clear hwd y0 y1 y2 bx0 bx1 bx2
            have hM : Hid (OwH W0.heap.size wq2 v4 (out ++ [⟨sd, st, sa⟩]) ∧ Fp Non W0 wq2 ∧ InsSt lt Hl.d l (⟨sd, st, sa⟩ : Hl) (k + 1) (out ++ [⟨sd, st, sa⟩]) true) := ⟨Oq2.out, Fq2.out, HST.out⟩
            have hkn := HL.out.1
            go_wp2_with fail
            go_roundw
            case rel => exact ⟨k + 1, by omega, by go_num, true, rfl, _, hM⟩
            case measure => simp [RowKit.intOf]; omega
          · have c3 : lt sd xd = true := lt_of (by simpa using c1) c2
            have e1 : Op.bytesLess xd sd = false := lt_asymm c3
            have e2 : (!Op.bytesLess xd sd) = true := by rw [e1]; rfl
            have e3 : (xd != sd) = true := by simp [c2]
            have e4 : (xd == sd) = false := beq_eq_false_iff_ne.2 c2
            have HST := Lib.hid (HL.out.2.2.2.2.1 rfl c3)
            clear c1 c2 c3 hR
            have hc1 := HC.out _ (HO.out.2)
            have y0 := hc1.c0; have y1 := hc1.c1; have y2 := hc1.c2
            unfold strV at y0
            simp only at y0 y1 y2
            obtain ⟨bx0, bx1, bx2⟩ := BOX.out _ (HO.out.2)
            clear hc1
            go_wp2_with fail
            go_quiet (fail)
            generalize hwd : (World.drewN wr _) = wq1 at *
            have Fq1 := Lib.hid (show Fp Non W0 wq1 from by rw [← hwd]; exact (HO.out.2).drewN _)
            have Oq1 := Lib.hid (show OwH W0.heap.size wq1 u5 out from by rw [← hwd]; exact (HO.out.1).non ((Fp.refl Non wr).drewN _))
            clear hwd y0 y1 y2 bx0 bx1 bx2
            have hc2 := HC.out _ (Fq1.out)
            have y0 := hc2.c0; have y1 := hc2.c1; have y2 := hc2.c2
            unfold strV at y0
            simp only at y0 y1 y2
            obtain ⟨bx0, bx1, bx2⟩ := BOX.out _ (Fq1.out)
            clear hc2
            have hap := app_oneH wq1 W0.heap.size u5 out ⟨sd, st, sa⟩ TLH Oq1.out (by have := HL.out.2.1; omega) (Fq1.out).size
            rw [show (⟨sd, st, sa⟩ : Hl).d = sd from rfl, show (⟨sd, st, sa⟩ : Hl).t = st from rfl, show (⟨sd, st, sa⟩ : Hl).a = sa from rfl] at hap
            unfold strV at hap
            have hlw := (Oq1.out).low
            have HA4 := Lib.hid (And.intro hap (And.intro hlw (Fq1.out)))
            clear hap hlw
            go_wp2_with (at_builtin; go_must (refine wpList_app rfl _ _ _ _ rfl _ _ rfl rfl _ HA4.out.1 ?_))
            intro v4 w4 hA4
            have F4 := Lib.hid (HA4.out.2.2.trans hA4.fp (fun j hj => .inr (HA4.out.2.1 j hj)))
            have O4 := Lib.hid hA4.own
            clear hA4 HA4
            clear y0 y1 y2 bx0 bx1 bx2
            have hc5 := HC.out _ (F4.out)
            have y0 := hc5.c0; have y1 := hc5.c1; have y2 := hc5.c2
            unfold strV at y0
            simp only at y0 y1 y2
            obtain ⟨bx0, bx1, bx2⟩ := BOX.out _ (F4.out)
            clear hc5
            go_wp2_with fail
            go_quiet (fail)
            generalize hwd : (World.drewN w4 _) = wq2 at *
            have Fq2 := Lib.hid (show Fp Non W0 wq2 from by rw [← hwd]; exact (F4.out).drewN _)
            have Oq2 := Lib.hid (show OwH W0.heap.size wq2 v4 (out ++ [⟨sd, st, sa⟩]) from by rw [← hwd]; exact (O4.out).non ((Fp.refl Non w4).drewN _))
            clear hwd y0 y1 y2 bx0 bx1 bx2
            have hc6 := HC.out _ (Fq2.out)
            have y0 := hc6.c0; have y1 := hc6.c1; have y2 := hc6.c2
            unfold strV at y0
            simp only at y0 y1 y2
            obtain ⟨bx0, bx1, bx2⟩ := BOX.out _ (Fq2.out)
            clear hc6
            have hap := app_oneH wq2 W0.heap.size v4 (out ++ [⟨sd, st, sa⟩]) ⟨xd, xt, xa⟩ TLH Oq2.out (by have := HL.out.2.1; simp; omega) (Fq2.out).size
            rw [show (⟨xd, xt, xa⟩ : Hl).d = xd from rfl, show (⟨xd, xt, xa⟩ : Hl).t = xt from rfl, show (⟨xd, xt, xa⟩ : Hl).a = xa from rfl] at hap
            unfold strV at hap
            have hlw := (Oq2.out).low
            have HA5 := Lib.hid (And.intro hap (And.intro hlw (Fq2.out)))
            clear hap hlw
            go_wp2_with (at_builtin; go_must (refine wpList_app rfl _ _ _ _ rfl _ _ rfl rfl _ HA5.out.1 ?_))
            intro v5 w5 hA5
            have F5 := Lib.hid (HA5.out.2.2.trans hA5.fp (fun j hj => .inr (HA5.out.2.1 j hj)))
            have O5 := Lib.hid hA5.own
            clear hA5 HA5
            have hM : Hid (OwH W0.heap.size w5 v5 (out ++ [⟨sd, st, sa⟩, ⟨xd, xt, xa⟩]) ∧ Fp Non W0 w5 ∧ InsSt lt Hl.d l (⟨sd, st, sa⟩ : Hl) (k + 1) (out ++ [⟨sd, st, sa⟩, ⟨xd, xt, xa⟩]) true) := ⟨O5.out, F5.out, HST.out⟩
            have hkn := HL.out.1
            go_wp2_with fail
            go_roundw
            case rel => exact ⟨k + 1, by omega, by go_num, true, rfl, _, hM⟩
            case measure => simp [RowKit.intOf]; omega
    · have hke : k = n := by omega
      subst hke
      have q3 : ((k : Int) < (k : Int)) = False := eq_false (by omega)
      have hfi := hR.out.2.2.fin lt_as HX.out.1
      have HO := Lib.hid (And.intro hR.out.1 hR.out.2.1)
      have hol : out.length ≤ 2 * k + 2 := by
        cases bb with
        | false => rw [(hR.out.2.2.no rfl).1, List.length_take]; omega
        | true =>
          rw [(hR.out.2.2.yes rfl).1, List.length_append, List.length_cons]
          have h1 := List.length_filter_le (fun x : Hl => lt x.d sd) (l.take k)
          have h2 := List.length_filter_le (fun x : Hl => lt sd x.d) (l.take k)
          rw [List.length_take] at h1 h2
          simp only
          omega
      obtain ⟨bx0, bx1, bx2⟩ := BOX.out _ HO.out.2
      have hls : w.heap.size ≤ W0.heap.size := HX.out.2.2.2.1.size
      clear hlt hk hR
      cases bb with
      | true =>
        rw [if_pos rfl] at hfi
        have HR : Hid (HlR w (insH l ⟨sd, st, sa⟩) u5 wr) := ⟨by show OwH _ _ _ (insH l ⟨sd, st, sa⟩); unfold insH; simp only at hfi ⊢; rw [hfi]; exact HO.out.1.lower hls, HX.out.2.2.2.1.then HO.out.2⟩
        clear hfi hls
        go_wp2
        go_ret
        exact ⟨_, rfl, HR.out⟩
      | false =>
        rw [if_neg Bool.false_ne_true] at hfi
        have HFI := Lib.hid (And.intro hfi hls)
        have hap := app_oneH wr W0.heap.size u5 out ⟨sd, st, sa⟩ TLH HO.out.1 (by omega) (HO.out.2).size
        rw [show (⟨sd, st, sa⟩ : Hl).d = sd from rfl, show (⟨sd, st, sa⟩ : Hl).t = st from rfl, show (⟨sd, st, sa⟩ : Hl).a = sa from rfl] at hap
        unfold strV at hap
        have hlw := (HO.out.1).low
        have HA4 := Lib.hid (And.intro hap (And.intro hlw (HO.out.2)))
        clear hap hlw
        clear hfi hls
        go_wp2_with (at_builtin; go_must (refine wpList_app rfl _ _ _ _ rfl _ _ rfl rfl _ HA4.out.1 ?_))
        intro v4 w4 hA4
        have F4 := Lib.hid (HA4.out.2.2.trans hA4.fp (fun j hj => .inr (HA4.out.2.1 j hj)))
        have O4 := Lib.hid hA4.own
        clear hA4 HA4
        have HR : Hid (HlR w (insH l ⟨sd, st, sa⟩) v4 w4) := ⟨by show OwH _ _ _ (insH l ⟨sd, st, sa⟩); have h9 := HFI.out.1; unfold insH; simp only at h9 ⊢; rw [h9]; exact O4.out.lower HFI.out.2, HX.out.2.2.2.1.then F4.out⟩
        go_wp2
        go_ret
        exact ⟨_, rfl, HR.out⟩
end Go.Proofs.YtenaggleepoclaaGreat
