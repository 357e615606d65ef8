/- WatchOnce (gen_zg.py) -/
import Derived.Test.YthgcmkgfmmjmaaaZf
namespace Go.Proofs.Ythgcmkgfmmjmaaa
set_option maxRecDepth 20000
set_option linter.unusedVariables false
set_option linter.unusedSimpArgs false
open Go.RowKit Pm


set_option maxHeartbeats 16000000 in
theorem WatchOnce_c (x : Wt) (pv : Value) (ps : List Bs) (w : World) (hv : Tx w pv ps) :
    Calls Try.prog 5 #[wtV x, pv] w fun e w' => e = .returned (.bool true) ∧ Fp Non w w' := by
  obtain ⟨ap, cp, rfl⟩ := hv.shape
  obtain ⟨sx, nx, px, dx⟩ := x
  have HV := Lib.hid hv
  obtain ⟨n, hnn⟩ : ∃ n, n = ps.length := ⟨_, rfl⟩
  rw [← hnn] at HV ⊢
  have HX := Lib.hid hnn
  have hbx := heap_alloc_new w (.cells #[.int .i64 sx, .int .i64 nx, .string (B px), .bool dx] TW)
  have K0 := Lib.hid (Kp.and (Kp.row hbx) (Kp.fp (fp_alloc w (.cells #[.int .i64 sx, .int .i64 nx, .string (B px), .bool dx] TW))))
  clear hv hnn hbx
  unfold wtV strV
  go_enter Try.func5, Try.ntmps5
  go_wp2_with fail
  refine (head_c _).mono ?_
  rintro e w1 ⟨rfl, hf⟩
  have K1 := Lib.hid (K0.out.later hf)
  clear hf K0
  have F1 := Lib.hid K1.out.now.2
  obtain ⟨p0, p1, p2, p3⟩ := boxP4 K1.out.now.1
  by_cases h1 : 1000 < px.length
  · have q1 : (1000 < px.length) = True := eq_true h1
    have q2 : ((1000 : Int) < (px.length : Int)) = True := eq_true (by omega)
    clear h1 K1
    go_wp2
    go_ret
    exact ⟨rfl, F1.out⟩
  have q1 : (1000 < px.length) = False := eq_false h1
  have q2 : ((1000 : Int) < (px.length : Int)) = False := eq_false (by omega)
  have HPX := Lib.hid (show px.length ≤ 1000 by omega)
  clear h1
  by_cases h1 : 60 < n
  · have q3 : (60 < n) = True := eq_true h1
    have q4 : ((60 : Int) < (n : Int)) = True := eq_true (by omega)
    clear h1 K1
    go_wp2
    go_ret
    exact ⟨rfl, F1.out⟩
  have q3 : (60 < n) = False := eq_false h1
  have q4 : ((60 : Int) < (n : Int)) = False := eq_false (by omega)
  have hn60 : n ≤ 60 := by omega
  clear h1
  have z3 := frozen_at K1.out.now.1 3
  have h2 := heap_setCell_same _ _ 3 _ _ (.bool false) K1.out.now.1
  have h3 := fp_cell w1 w.heap.size 3 (.bool false)
  have HB2 := Lib.hid (show (World.setCell w1 ⟨w.heap.size, 3, none⟩ (.bool false)).heap[w.heap.size]? = some (.cells #[.int .i64 sx, .int .i64 nx, .string (B px), .bool false] TW (0, 0)) from h2)
  have F2 := Lib.hid (F1.out.over h3 (fun k hk => by have hk : k = w.heap.size := hk; omega))
  clear h2 h3 K1 F1
  have hadd := fun W => Add_w _ ⟨[], []⟩ ⟨sx, nx, px, false⟩ W (WdR.nil W) (right_sz nil_right (by simp)) (show px.length ≤ 1000000 by have := HPX.out; omega)
  obtain ⟨b2, hb2⟩ : ∃ b, rWt ⟨sx, nx, px, false⟩ = b := ⟨_, rfl⟩
  rw [one_add, hb2] at hadd
  unfold wtV strV at hadd
  simp only at hadd
  have HADD := Lib.hid hadd
  have HB := Lib.hid hb2
  clear hadd hb2
  obtain ⟨u0, u1, u2, u3⟩ := boxP4 HB2.out
  go_wp2_with fail
  clear p0 p1 p2 p3 z3
  generalize (World.setCell w1 _ _) = w2 at *
  refine (HADD.out _).mono ?_
  rintro e w3 hR
  cases b2 with
  | false =>
    rw [if_neg (by decide)] at hR
    obtain ⟨a, c, a2, c2, rfl, hw⟩ := hR.wd
    have F3 := Lib.hid ((F2.out.then hR.fp).alloc (.cells #[.slice a 0 c, .slice a2 0 c2] TD))
    simp only [List.length_nil]
    clear hR hw
    clear HADD HB2 HPX
    go_wp2
    go_ret
    exact ⟨rfl, F3.out⟩
  | true =>
    rw [if_pos rfl] at hR
    obtain ⟨a, c, a2, c2, rfl, hw⟩ := hR.wd
    rw [show List.length (oA ⟨sx, nx, px, false⟩).ws = 1 from rfl, show List.length (oA ⟨sx, nx, px, false⟩).ss = 1 from rfl] at hw ⊢
    have hfa := hR.fp.then (fp_alloc w3 (.cells #[.slice a 1 c, .slice a2 1 c2] TD))
    have F3 := Lib.hid (F2.out.then hfa)
    have HB3 := Lib.hid (hfa.heap HB2.out (fun h => h))
    have HD3 := Lib.hid (heap_alloc_new w3 (.cells #[.slice a 1 c, .slice a2 1 c2] TD))
    have hne : w.heap.size < w3.heap.size := by
      have := (Array.getElem?_eq_some_iff.1 (hR.fp.heap HB2.out (fun h => h))).1
      exact this
    have HW3 := Lib.hid (hw.non (fp_alloc w3 (.cells #[.slice a 1 c, .slice a2 1 c2] TD)))
    have HNE := Lib.hid hne
    clear hR hw hfa hne HB2 F2 HADD u0 u1 u2 u3
    obtain ⟨b6, hb6⟩ : ∃ b, b = w3.heap.size := ⟨_, rfl⟩
    go_wp2_with fail
    rw [← hb6] at HD3 HNE ⊢
    clear hb6
    generalize (World.alloc w3 _) = w4 at *
    have H0 := Lib.hid (show (WdR w4 (.agg #[.slice a 1 c, .slice a2 1 c2]) (oS ⟨sx, nx, px, false⟩ false) ∧ (1 = (oS ⟨sx, nx, px, false⟩ false).ws.length ∧ w4.heap[b6]? = some (.cells #[.slice a 1 c, .slice a2 1 c2] TD (0, 0))) ∧ w4.heap[w.heap.size]? = some (.cells #[.int .i64 sx, .int .i64 nx, .string (B px), .bool false] TW (0, 0)) ∧ Fp Non w w4) from ⟨HW3.out, ⟨rfl, HD3.out⟩, HB3.out, F3.out⟩)
    clear F3 HB3 HD3 HW3
    go_loopw [8, 9] (fun h i wr => ∃ k : Nat, k ≤ n ∧ i = .int .i64 k ∧ ∃ hb : Bool, h = .bool hb ∧ ∃ a m c a2 m2 c2, Hid (WdR wr (.agg #[.slice a m c, .slice a2 m2 c2]) (oS ⟨sx, nx, px, false⟩ hb) ∧ (m = (oS ⟨sx, nx, px, false⟩ hb).ws.length ∧ wr.heap[b6]? = some (.cells #[.slice a m c, .slice a2 m2 c2] TD (0, 0))) ∧ wr.heap[w.heap.size]? = some (.cells #[.int .i64 sx, .int .i64 nx, .string (B px), .bool false] TW (0, 0)) ∧ Fp Non w wr)) (fun _ i _ => n - (RowKit.intOf i).toNat)
    case atStart => exact ⟨0, Nat.zero_le _, rfl, false, rfl, _, _, _, _, _, _, H0⟩
    case round =>
      clear H0
      obtain ⟨k, hk, rfl, hb, rfl, a, m, c, a2, m2, c2, hR⟩ := hrel
      rename_i wr _
      obtain ⟨p0, p1, p2, p3⟩ := boxP4 hR.out.2.2.1
      obtain ⟨d0, d1⟩ := boxP2 hR.out.2.1.2
      by_cases hlt : k < n
      · have hkl : k < ps.length := by rw [← HX.out]; exact hlt
        obtain ⟨g, o, cap', e, hcell⟩ := (show Tx w (.slice ap ps.length cp) ps from by rw [← HX.out]; exact HV.out).at (by omega)
        injection e with e1 e2 e3
        subst e1 e3
        have hc := hR.out.2.2.2.cell (hcell k hkl) (fun h => h)
        generalize ps[k] = p at *
        have q5 : ((k : Int) < (n : Int)) = True := eq_true (by omega)
        have q6 : (k < n) = True := eq_true hlt
        have HL := Lib.hid hlt
        have HC := Lib.hid hc
        clear hcell hkl hlt
        by_cases h1 : 1000 < p.length
        · have q7 : (1000 < p.length) = True := eq_true h1
          have q8 : ((1000 : Int) < (p.length : Int)) = True := eq_true (by omega)
          have F5 := Lib.hid hR.out.2.2.2
          clear h1
          go_wp2
          go_ret
          exact ⟨rfl, F5.out⟩
        · have q7 : (1000 < p.length) = False := eq_false h1
          have q8 : ((1000 : Int) < (p.length : Int)) = False := eq_false (by omega)
          have htell := fun W hW => Tell_w (.agg #[.slice a m c, .slice a2 m2 c2]) (oS ⟨sx, nx, px, false⟩ hb) 3 p W hW (right_sz (once_right HB.out hb) (by cases hb <;> simp [oS, oA, oB])) (by omega)
          have htm := once_tell HB.out rfl hb p
          obtain ⟨D, hD⟩ : ∃ D, D = (tellM (oS ⟨sx, nx, px, false⟩ hb) 3 p).1 := ⟨_, rfl⟩
          obtain ⟨er, her⟩ : ∃ D, D = (tellM (oS ⟨sx, nx, px, false⟩ hb) 3 p).2 := ⟨_, rfl⟩
          rw [← hD, ← her] at htell
          rw [htm] at hD her
          have HDE := Lib.hid (And.intro hD her)
          clear htm hD her
          have HTELL := Lib.hid htell
          clear h1 htell
          have HS := Lib.hid (fun W (f : Fp Non wr W) => And.intro (f.cell d0 (fun h => h)) (And.intro (f.cell d1 (fun h => h)) (f.cell HC.out (fun h => h))))
          have HWD := Lib.hid (Fp.refl Non wr).drew
          clear p0 p1 p2 p3 d0 d1
          go_wp2_with fail
          refine wp_region_held_drew (S := (fun w' => w'.cell? ⟨b6, 0, none⟩ = some (.slice a m c) ∧ w'.cell? ⟨b6, 1, none⟩ = some (.slice a2 m2 c2) ∧ w'.cell? ⟨g, o + k, none⟩ = some (.string (B p)))) (by kernel_rfl) ?_ (fun hHeld => ?_)
          · exact HS.out _ HWD.out
          refine tk 0 hHeld ?_
          refine tk 1 hHeld ?_
          refine tk 2 hHeld ?_
          refine tk 3 hHeld ?_
          refine tk 4 hHeld ?_
          refine wpAnyH_ready (rs := [5, 9]) (by kernel_rfl) (by simp) ?_
          refine AllReadyH.cons (o := ?_) (by simp only [zA, zB, zC] <;> exact rfl) (fun K hK => ?_) (AllReadyH.cons (o := ?_) (by simp only [zA, zB, zC] <;> exact rfl) (fun K hK => ?_) AllReadyH.nil)
          · go_simp
            refine (HTELL.out _ (hR.out.1.non HWD.out)).mono ?_
            rintro e w5 hR
            obtain ⟨a5, m5, c5, d5, k5, e5, rfl, hm5, hk5, hw5⟩ := hR.bx
            have HW5 := Lib.hid hw5
            have HM5 := Lib.hid hm5
            have F1 := Lib.hid (HWD.out.then hR.fp)
            clear hR hw5 hm5 hk5
            go_wp2_with fail
            refine hK.out _ _ (HS.out _ F1.out) (fun hHeld => ?_)
            clear hK K
            try simp only [zP, zN, zS, zT, zU]
            refine tk 6 hHeld ?_
            refine tk 7 hHeld ?_
            refine tk 8 hHeld ?_
            refine rY 9 (fun K hK => ?_)
            go_simp
            have HNB := Lib.hid (heap_alloc_new w5 (.cells #[.slice none 0 0, .slice none 0 0] TD))
            have F2 := Lib.hid (F1.out.then (fp_alloc w5 (.cells #[.slice none 0 0, .slice none 0 0] TD)))
            have HSZ5 := Lib.hid F1.out.size
            have HW5 := Lib.hid (HW5.out.non (fp_alloc w5 (.cells #[.slice none 0 0, .slice none 0 0] TD)))
            go_wp2_with fail
            refine hK.out _ _ (HS.out _ F2.out) (fun hHeld => ?_)
            clear hK K
            try simp only [zP, zN, zS, zT, zU]
            generalize (World.alloc w5 _) = w6 at *
            obtain ⟨N, hN⟩ : ∃ N, N = w5.heap.size := ⟨_, rfl⟩
            have HNL := Lib.hid (show wr.heap.size ≤ N by rw [hN]; exact HSZ5.out)
            rw [← hN] at HNB ⊢
            clear hN
            obtain ⟨s0, s1, s2, s3, s4, s5, hz, hzf⟩ := two_set HNB.out (.slice a5 m5 c5) (.slice d5 k5 e5)
            have HCC := Lib.hid (And.intro (F2.out.over hzf (fun k hk => by have hk : k = N := hk; have := HNL.out; omega)) (And.intro hz (HW5.out.off HNB.out hzf)))
            clear hz hzf
            refine rY 10 (fun K hK => ?_)
            go_simp
            go_wp2_with fail
            refine hK.out _ _ (HS.out _ HCC.out.1) (fun hHeld => ?_)
            clear hK K
            try simp only [zP, zN, zS, zT, zU]
            refine tk 11 hHeld ?_
            refine yD ?_
            clear s0 s1 s2 s3 s4 s5 HNB HW5 F2
            generalize (World.setCell (World.setCell w6 _ _) _ _) = wn at *
            have hE := HDE.out
            have hf5 := HCC.out.1
            have HRW := Lib.hid (hR.out.1.non hf5)
            have HRR := Lib.hid (And.intro (hf5.heap hR.out.2.1.2 (fun h => h)) (And.intro (hf5.heap hR.out.2.2.1 (fun h => h)) (hR.out.2.2.2.then hf5)))
            have HC6 := Lib.hid (hf5.cell HC.out (fun h => h))
            clear hf5
            by_cases hsp : (split p).isSome = true
            · rw [if_pos hsp] at hE
              obtain ⟨hD, rfl⟩ := hE
              have hD : D = oS ⟨sx, nx, px, false⟩ (hb || decide (p = px)) := hD
              have HDD := Lib.hid hD
              obtain ⟨v0, v1⟩ := boxP2 HCC.out.2.1
              obtain ⟨y0, y1, y2, y3, y4, y5, hz, hzf⟩ := two_set HRR.out.1 (.slice a5 m5 c5) (.slice d5 k5 e5)
              have HZ := Lib.hid (show (WdR _ (.agg #[.slice a5 m5 c5, .slice d5 k5 e5]) (oS ⟨sx, nx, px, false⟩ (hb || decide (p = px))) ∧ (m5 = (oS ⟨sx, nx, px, false⟩ (hb || decide (p = px))).ws.length ∧ _) ∧ _ ∧ Fp Non w _) from ⟨hD ▸ HCC.out.2.2.off HRR.out.1 hzf, ⟨hD ▸ HM5.out, hz⟩, hzf.heap HRR.out.2.1 (fun e => by have e : w.heap.size = b6 := e; have := HNE.out; omega), HRR.out.2.2.over hzf (fun j hj => by have hj : j = b6 := hj; have := HNE.out; omega)⟩)
              have HC7 := Lib.hid (hzf.cell HC6.out (slot_ne2 HRR.out.1 HC6.out))
              clear hzf hz hsp hD
              have hkn := HL.out
              cases hb with
              | true =>
                go_wp2_with fail
                generalize (World.setCell (World.setCell wn _ _) _ _) = wz at *
                obtain ⟨x0, x1, x2, x3⟩ := boxP4 HZ.out.2.2.1
                have x4 := HC7.out
                go_quiet (fail)
                have HREL := fun q => Lib.hid (show (WdR (wz.drewN q) (.agg #[.slice a5 m5 c5, .slice d5 k5 e5]) (oS ⟨sx, nx, px, false⟩ true) ∧ (m5 = (oS ⟨sx, nx, px, false⟩ true).ws.length ∧ (wz.drewN q).heap[b6]? = some (.cells #[.slice a5 m5 c5, .slice d5 k5 e5] TD (0, 0))) ∧ (wz.drewN q).heap[w.heap.size]? = some (.cells #[.int .i64 sx, .int .i64 nx, .string (B px), .bool false] TW (0, 0)) ∧ Fp Non w (wz.drewN q)) from by
                  have hz := HZ.out
                  simp only [Bool.true_or] at hz
                  exact ⟨hz.1.non ((Fp.refl Non wz).drewN q), ⟨hz.2.1.1, hz.2.1.2⟩, hz.2.2.1, hz.2.2.2.drewN q⟩)
                go_wp2
                go_roundw
                case rel => exact ⟨k + 1, by omega, by go_num, true, rfl, a5, m5, c5, d5, k5, e5, HREL _⟩
                case measure => simp [RowKit.intOf]; omega
              | false =>
                by_cases hpq : p = px
                · have hqp := hpq.symm
                  subst hqp
                  go_wp2_with fail
                  generalize (World.setCell (World.setCell wn _ _) _ _) = wz at *
                  obtain ⟨x0, x1, x2, x3⟩ := boxP4 HZ.out.2.2.1
                  have x4 := HC7.out
                  go_quiet (fail)
                  have HREL := fun q => Lib.hid (show (WdR (wz.drewN q) (.agg #[.slice a5 m5 c5, .slice d5 k5 e5]) (oS ⟨sx, nx, px, false⟩ true) ∧ (m5 = (oS ⟨sx, nx, px, false⟩ true).ws.length ∧ (wz.drewN q).heap[b6]? = some (.cells #[.slice a5 m5 c5, .slice d5 k5 e5] TD (0, 0))) ∧ (wz.drewN q).heap[w.heap.size]? = some (.cells #[.int .i64 sx, .int .i64 nx, .string (B px), .bool false] TW (0, 0)) ∧ Fp Non w (wz.drewN q)) from by
                    have hz := HZ.out
                    simp only [Bool.false_or, decide_true] at hz
                    exact ⟨hz.1.non ((Fp.refl Non wz).drewN q), ⟨hz.2.1.1, hz.2.1.2⟩, hz.2.2.1, hz.2.2.2.drewN q⟩)
                  go_wp2
                  go_roundw
                  case rel => exact ⟨k + 1, by omega, by go_num, true, rfl, a5, m5, c5, d5, k5, e5, HREL _⟩
                  case measure => simp [RowKit.intOf]; omega
                · have e1 : (p == px) = false := beq_eq_false_iff_ne.2 hpq
                  have e2 : (p = px) = False := eq_false hpq
                  go_wp2_with fail
                  generalize (World.setCell (World.setCell wn _ _) _ _) = wz at *
                  obtain ⟨x0, x1, x2, x3⟩ := boxP4 HZ.out.2.2.1
                  have x4 := HC7.out
                  go_quiet (fail)
                  have HREL := fun q => Lib.hid (show (WdR (wz.drewN q) (.agg #[.slice a5 m5 c5, .slice d5 k5 e5]) (oS ⟨sx, nx, px, false⟩ false) ∧ (m5 = (oS ⟨sx, nx, px, false⟩ false).ws.length ∧ (wz.drewN q).heap[b6]? = some (.cells #[.slice a5 m5 c5, .slice d5 k5 e5] TD (0, 0))) ∧ (wz.drewN q).heap[w.heap.size]? = some (.cells #[.int .i64 sx, .int .i64 nx, .string (B px), .bool false] TW (0, 0)) ∧ Fp Non w (wz.drewN q)) from by
                    have hz := HZ.out
                    simp only [Bool.false_or, decide_eq_false hpq] at hz
                    exact ⟨hz.1.non ((Fp.refl Non wz).drewN q), ⟨hz.2.1.1, hz.2.1.2⟩, hz.2.2.1, hz.2.2.2.drewN q⟩)
                  go_wp2
                  go_roundw
                  case rel => exact ⟨k + 1, by omega, by go_num, false, rfl, a5, m5, c5, d5, k5, e5, HREL _⟩
                  case measure => simp [RowKit.intOf]; omega
            · rw [if_neg hsp] at hE
              obtain ⟨hD, rfl⟩ := hE
              have HREL := Lib.hid (show (WdR wn (.agg #[.slice a m c, .slice a2 m2 c2]) (oS ⟨sx, nx, px, false⟩ hb) ∧ (m = (oS ⟨sx, nx, px, false⟩ hb).ws.length ∧ wn.heap[b6]? = some (.cells #[.slice a m c, .slice a2 m2 c2] TD (0, 0))) ∧ wn.heap[w.heap.size]? = some (.cells #[.int .i64 sx, .int .i64 nx, .string (B px), .bool false] TW (0, 0)) ∧ Fp Non w wn) from ⟨HRW.out, ⟨hR.out.2.1.1, HRR.out.1⟩, HRR.out.2.1, HRR.out.2.2⟩)
              have hkn := HL.out
              clear hsp hD
              go_wp2
              go_roundw
              case rel => exact ⟨k + 1, by omega, by go_num, hb, rfl, a, m, c, a2, m2, c2, HREL⟩
              case measure => simp [RowKit.intOf]; omega
          · go_simp
            have HNB := Lib.hid (show ((World.alloc wr (.cells #[.slice none 0 0, .slice none 0 0] TD)).drew).heap[wr.heap.size]? = _ from heap_alloc_new wr (.cells #[.slice none 0 0, .slice none 0 0] TD))
            have F1 := Lib.hid ((fp_alloc wr (.cells #[.slice none 0 0, .slice none 0 0] TD)).drew)
            go_wp2_with fail
            refine hK.out _ _ (HS.out _ F1.out) (fun hHeld => ?_)
            clear hK K
            try simp only [zP, zN, zS, zT, zU]
            refine rY 5 (fun K hK => ?_)
            go_simp
            refine (HTELL.out _ (hR.out.1.non F1.out)).mono ?_
            rintro e w5 hR
            obtain ⟨a5, m5, c5, d5, k5, e5, rfl, hm5, hk5, hw5⟩ := hR.bx
            have HW5 := Lib.hid hw5
            have HM5 := Lib.hid hm5
            have F2 := Lib.hid (F1.out.then hR.fp)
            have HNB := Lib.hid (hR.fp.heap HNB.out (fun h => h))
            clear hR hw5 hm5 hk5
            go_wp2_with fail
            refine hK.out _ _ (HS.out _ F2.out) (fun hHeld => ?_)
            clear hK K
            try simp only [zP, zN, zS, zT, zU]
            refine tk 6 hHeld ?_
            refine tk 7 hHeld ?_
            refine tk 8 hHeld ?_
            obtain ⟨N, hN⟩ : ∃ N, N = wr.heap.size := ⟨_, rfl⟩
            have HNL := Lib.hid (show wr.heap.size ≤ N by rw [hN]; exact Nat.le_refl _)
            rw [← hN] at HNB ⊢
            clear hN
            obtain ⟨s0, s1, s2, s3, s4, s5, hz, hzf⟩ := two_set HNB.out (.slice a5 m5 c5) (.slice d5 k5 e5)
            have HCC := Lib.hid (And.intro (F2.out.over hzf (fun k hk => by have hk : k = N := hk; have := HNL.out; omega)) (And.intro hz (HW5.out.off HNB.out hzf)))
            clear hz hzf
            refine rY 10 (fun K hK => ?_)
            go_simp
            go_wp2_with fail
            refine hK.out _ _ (HS.out _ HCC.out.1) (fun hHeld => ?_)
            clear hK K
            try simp only [zP, zN, zS, zT, zU]
            refine tk 11 hHeld ?_
            refine yD ?_
            clear s0 s1 s2 s3 s4 s5 HNB HW5 F2
            generalize (World.setCell (World.setCell w5 _ _) _ _) = wn at *
            have hE := HDE.out
            have hf5 := HCC.out.1
            have HRW := Lib.hid (hR.out.1.non hf5)
            have HRR := Lib.hid (And.intro (hf5.heap hR.out.2.1.2 (fun h => h)) (And.intro (hf5.heap hR.out.2.2.1 (fun h => h)) (hR.out.2.2.2.then hf5)))
            have HC6 := Lib.hid (hf5.cell HC.out (fun h => h))
            clear hf5
            by_cases hsp : (split p).isSome = true
            · rw [if_pos hsp] at hE
              obtain ⟨hD, rfl⟩ := hE
              have hD : D = oS ⟨sx, nx, px, false⟩ (hb || decide (p = px)) := hD
              have HDD := Lib.hid hD
              obtain ⟨v0, v1⟩ := boxP2 HCC.out.2.1
              obtain ⟨y0, y1, y2, y3, y4, y5, hz, hzf⟩ := two_set HRR.out.1 (.slice a5 m5 c5) (.slice d5 k5 e5)
              have HZ := Lib.hid (show (WdR _ (.agg #[.slice a5 m5 c5, .slice d5 k5 e5]) (oS ⟨sx, nx, px, false⟩ (hb || decide (p = px))) ∧ (m5 = (oS ⟨sx, nx, px, false⟩ (hb || decide (p = px))).ws.length ∧ _) ∧ _ ∧ Fp Non w _) from ⟨hD ▸ HCC.out.2.2.off HRR.out.1 hzf, ⟨hD ▸ HM5.out, hz⟩, hzf.heap HRR.out.2.1 (fun e => by have e : w.heap.size = b6 := e; have := HNE.out; omega), HRR.out.2.2.over hzf (fun j hj => by have hj : j = b6 := hj; have := HNE.out; omega)⟩)
              have HC7 := Lib.hid (hzf.cell HC6.out (slot_ne2 HRR.out.1 HC6.out))
              clear hzf hz hsp hD
              have hkn := HL.out
              cases hb with
              | true =>
                go_wp2_with fail
                generalize (World.setCell (World.setCell wn _ _) _ _) = wz at *
                obtain ⟨x0, x1, x2, x3⟩ := boxP4 HZ.out.2.2.1
                have x4 := HC7.out
                go_quiet (fail)
                have HREL := fun q => Lib.hid (show (WdR (wz.drewN q) (.agg #[.slice a5 m5 c5, .slice d5 k5 e5]) (oS ⟨sx, nx, px, false⟩ true) ∧ (m5 = (oS ⟨sx, nx, px, false⟩ true).ws.length ∧ (wz.drewN q).heap[b6]? = some (.cells #[.slice a5 m5 c5, .slice d5 k5 e5] TD (0, 0))) ∧ (wz.drewN q).heap[w.heap.size]? = some (.cells #[.int .i64 sx, .int .i64 nx, .string (B px), .bool false] TW (0, 0)) ∧ Fp Non w (wz.drewN q)) from by
                  have hz := HZ.out
                  simp only [Bool.true_or] at hz
                  exact ⟨hz.1.non ((Fp.refl Non wz).drewN q), ⟨hz.2.1.1, hz.2.1.2⟩, hz.2.2.1, hz.2.2.2.drewN q⟩)
                go_wp2
                go_roundw
                case rel => exact ⟨k + 1, by omega, by go_num, true, rfl, a5, m5, c5, d5, k5, e5, HREL _⟩
                case measure => simp [RowKit.intOf]; omega
              | false =>
                by_cases hpq : p = px
                · have hqp := hpq.symm
                  subst hqp
                  go_wp2_with fail
                  generalize (World.setCell (World.setCell wn _ _) _ _) = wz at *
                  obtain ⟨x0, x1, x2, x3⟩ := boxP4 HZ.out.2.2.1
                  have x4 := HC7.out
                  go_quiet (fail)
                  have HREL := fun q => Lib.hid (show (WdR (wz.drewN q) (.agg #[.slice a5 m5 c5, .slice d5 k5 e5]) (oS ⟨sx, nx, px, false⟩ true) ∧ (m5 = (oS ⟨sx, nx, px, false⟩ true).ws.length ∧ (wz.drewN q).heap[b6]? = some (.cells #[.slice a5 m5 c5, .slice d5 k5 e5] TD (0, 0))) ∧ (wz.drewN q).heap[w.heap.size]? = some (.cells #[.int .i64 sx, .int .i64 nx, .string (B px), .bool false] TW (0, 0)) ∧ Fp Non w (wz.drewN q)) from by
                    have hz := HZ.out
                    simp only [Bool.false_or, decide_true] at hz
                    exact ⟨hz.1.non ((Fp.refl Non wz).drewN q), ⟨hz.2.1.1, hz.2.1.2⟩, hz.2.2.1, hz.2.2.2.drewN q⟩)
                  go_wp2
                  go_roundw
                  case rel => exact ⟨k + 1, by omega, by go_num, true, rfl, a5, m5, c5, d5, k5, e5, HREL _⟩
                  case measure => simp [RowKit.intOf]; omega
                · have e1 : (p == px) = false := beq_eq_false_iff_ne.2 hpq
                  have e2 : (p = px) = False := eq_false hpq
                  go_wp2_with fail
                  generalize (World.setCell (World.setCell wn _ _) _ _) = wz at *
                  obtain ⟨x0, x1, x2, x3⟩ := boxP4 HZ.out.2.2.1
                  have x4 := HC7.out
                  go_quiet (fail)
                  have HREL := fun q => Lib.hid (show (WdR (wz.drewN q) (.agg #[.slice a5 m5 c5, .slice d5 k5 e5]) (oS ⟨sx, nx, px, false⟩ false) ∧ (m5 = (oS ⟨sx, nx, px, false⟩ false).ws.length ∧ (wz.drewN q).heap[b6]? = some (.cells #[.slice a5 m5 c5, .slice d5 k5 e5] TD (0, 0))) ∧ (wz.drewN q).heap[w.heap.size]? = some (.cells #[.int .i64 sx, .int .i64 nx, .string (B px), .bool false] TW (0, 0)) ∧ Fp Non w (wz.drewN q)) from by
                    have hz := HZ.out
                    simp only [Bool.false_or, decide_eq_false hpq] at hz
                    exact ⟨hz.1.non ((Fp.refl Non wz).drewN q), ⟨hz.2.1.1, hz.2.1.2⟩, hz.2.2.1, hz.2.2.2.drewN q⟩)
                  go_wp2
                  go_roundw
                  case rel => exact ⟨k + 1, by omega, by go_num, false, rfl, a5, m5, c5, d5, k5, e5, HREL _⟩
                  case measure => simp [RowKit.intOf]; omega
            · rw [if_neg hsp] at hE
              obtain ⟨hD, rfl⟩ := hE
              have HREL := Lib.hid (show (WdR wn (.agg #[.slice a m c, .slice a2 m2 c2]) (oS ⟨sx, nx, px, false⟩ hb) ∧ (m = (oS ⟨sx, nx, px, false⟩ hb).ws.length ∧ wn.heap[b6]? = some (.cells #[.slice a m c, .slice a2 m2 c2] TD (0, 0))) ∧ wn.heap[w.heap.size]? = some (.cells #[.int .i64 sx, .int .i64 nx, .string (B px), .bool false] TW (0, 0)) ∧ Fp Non w wn) from ⟨HRW.out, ⟨hR.out.2.1.1, HRR.out.1⟩, HRR.out.2.1, HRR.out.2.2⟩)
              have hkn := HL.out
              clear hsp hD
              go_wp2
              go_roundw
              case rel => exact ⟨k + 1, by omega, by go_num, hb, rfl, a, m, c, a2, m2, c2, HREL⟩
              case measure => simp [RowKit.intOf]; omega

      · have hke : k = n := by omega
        subst hke
        have q5 : ((k : Int) < (k : Int)) = False := eq_false (by omega)
        have htake := Take_w (.agg #[.slice a m c, .slice a2 m2 c2]) (oS ⟨sx, nx, px, false⟩ hb) sx 0 wr hR.out.1 (right_sz (once_right HB.out hb) (by cases hb <;> simp [oS, oA, oB]))
        rw [once_take HB.out hb] at htake
        have HTAKE := Lib.hid htake
        clear hlt hk htake
        go_wp2_with fail
        refine HTAKE.out.mono ?_
        rintro e w5 hT
        obtain ⟨a5, m5, c5, d5, k5, e5, l5, n5, f5, rfl, hm5, hk5, hn5, hw5, hl5⟩ := hT.bx
        have hfa := hT.fp.then (fp_alloc w5 (.cells #[.slice a5 m5 c5, .slice d5 k5 e5] TD))
        have HE := Lib.hid (And.intro (hR.out.2.2.2.then hfa) (And.intro (hfa.heap hR.out.2.1.2 (fun h => h)) (And.intro (hfa.heap hR.out.2.2.1 (fun h => h)) (hl5.non (fp_alloc w5 (.cells #[.slice a5 m5 c5, .slice d5 k5 e5] TD))))))
        clear hT hm5 hk5 hw5 hl5 hfa HTAKE p0 p1 p2 p3 d0 d1
        obtain ⟨p0, p1, p2, p3⟩ := boxP4 HE.out.2.2.1
        obtain ⟨d0, d1⟩ := boxP2 HE.out.2.1
        cases hb with
        | false =>
          have hz5 : n5 = 0 := hn5
          clear hn5
          subst hz5
          go_wp2_with fail
          go_quiet (fail)
          go_wp2
          go_ret
          exact ⟨rfl, HE.out.1.drewN _⟩
        | true =>
          have hz5 : n5 = 1 := hn5
          clear hn5
          subst hz5
          have hm : m = 0 := hR.out.2.1.1
          subst hm
          have hl := HE.out.2.2.2
          rw [if_pos rfl] at hl
          obtain ⟨g, o, cc, e, _, _, _, hcell⟩ := hl.at Nat.zero_lt_one
          injection e with e1 e2 e3
          subst e1 e3
          try clear e2
          have hnd := hcell 0 Nat.zero_lt_one
          have c0 := hnd.c0; have c1 := hnd.c1; have c2 := hnd.c2; have c3 := hnd.c3
          rw [Nat.zero_mul, Nat.add_zero] at c0 c1 c2 c3
          simp only [List.getElem_cons_zero, oE, strV] at c0 c1 c2 c3
          clear hcell hnd hl
          go_wp2_with fail
          go_quiet (fail)
          go_wp2
          go_ret
          exact ⟨rfl, HE.out.1.drewN _⟩
end Go.Proofs.Ythgcmkgfmmjmaaa
