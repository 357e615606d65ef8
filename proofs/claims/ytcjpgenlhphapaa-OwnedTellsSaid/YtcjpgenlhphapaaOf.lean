/- owned.Freeze, Install, Drop -/
import Derived.Test.YtcjpgenlhphapaaOe
namespace Go.Proofs.Ytcjpgenlhphapaa
set_option maxRecDepth 20000
set_option linter.unusedVariables false
set_option linter.unusedSimpArgs false
open Go.RowKit Pm

set_option maxHeartbeats 2000000 in
theorem Freeze_c (v : Value) (l : List Hl) (p : Bs) (w : World) (hv : NsH w v l) (hs : Szs l) (hp : p.length ≤ 1000000) :
    Calls Try.prog 11 #[v, .string (B p)] w fun e w' => TwoR w (frz l p) e w' := by
  have h1 := OfH_c v l p w hv hs hp
  have hwi := fun (t : Int) W (f : Fp Non w W) (h : RtH l) => with_c v l ⟨p, t, 2⟩ W (hv.non f) h.up h.len
  unfold hlV strV at hwi
  simp only at hwi
  have hsn := hs.n
  cases ho : ofR l p with
  | none =>
    have e : frz l p = none := by unfold frz; rw [pick_none ho]
    rw [e]
    obtain ⟨ao, cap, rfl⟩ := hv.shape
    rw [ho] at h1
    generalize l.length = n at *
    have H1 := Lib.hid h1
    clear h1 hv hs hp e ho hsn hwi
    go_enter Try.func11, Try.ntmps11
    go_wp2_with fail
    refine H1.out.mono ?_
    rintro e w1 ⟨rfl, hf⟩
    have HF := Lib.hid hf
    clear hf
    unfold idx
    go_wp2
    go_ret2
    exact TwoR.none HF.out
  | some k =>
    have hk := ofR_lt ho
    have hrt := (pick_ok (pick_at ho)).1
    have e : frz l p = if l[k].a = 1 then withR l ⟨p, l[k].t, 2⟩ else none := by unfold frz; rw [pick_at ho]
    obtain ⟨g, o, cap, rfl, _, _, _, hcell⟩ := hv.at (by omega)
    have hc := hcell k hk
    have hwi := hwi l[k].t
    rw [ho] at h1
    obtain ⟨n, hn⟩ : ∃ n, n = l.length := ⟨_, rfl⟩
    rw [← hn] at h1 hk hsn hwi ⊢
    obtain ⟨x, hx⟩ : ∃ x, x = l[k] := ⟨_, rfl⟩
    rw [← hx] at hc e hwi
    obtain ⟨xd, xt, xa⟩ := x
    have c1 := hc.c1; have c2 := hc.c2
    simp only at c1 c2 e hwi
    obtain ⟨r, hr⟩ : ∃ r, frz l p = r := ⟨_, rfl⟩
    rw [hr] at e ⊢
    have q1 : ((k : Int) == -1) = false := beq_eq_false_iff_ne.2 (by omega)
    have q2 : ((k : Int) < (n : Int)) = True := eq_true (by omega)
    have q3 : (k < n) = True := eq_true hk
    have q4 : ((k : Int) = -1) = False := eq_false (by omega)
    have H1 := Lib.hid h1
    have HC := Lib.hid (And.intro c1 c2)
    have HE := Lib.hid e
    have HW := Lib.hid (fun W f => hwi W f hrt)
    clear h1 hv hs hp e ho hcell hn hk hc hwi hrt hx hr c1 c2
    go_enter Try.func11, Try.ntmps11
    go_wp2_with fail
    refine H1.out.mono ?_
    rintro e w1 ⟨rfl, hf⟩
    have HF := Lib.hid hf
    have c1 := hf.cell HC.out.1 (fun h => h)
    have c2 := hf.cell HC.out.2 (fun h => h)
    clear hf
    unfold idx
    by_cases ha : xa = 1
    · subst ha
      go_wp2_with fail
      refine (HW.out _ HF.out).mono ?_
      rintro e w2 hW
      obtain ⟨v2, rfl, hN⟩ := hW.ex
      have HR := Lib.hid (And.intro hN (HF.out.then hW.fp))
      clear hW hN
      go_wp2
      go_ret2
      rw [HE.out, if_pos (by trivial)]
      exact ⟨⟨_, rfl, HR.out.1⟩, HR.out.2⟩
    · have q5 : (xa == 1) = false := beq_eq_false_iff_ne.2 ha
      have q6 : (xa = 1) = False := eq_false ha
      have q7 : (xa != 1) = true := by simp [bne, q5]
      clear ha
      go_wp2
      go_ret2
      rw [HE.out, if_neg (by rw [q6]; exact fun h => h)]
      exact TwoR.none HF.out

set_option maxHeartbeats 4000000 in
theorem Install_c (v : Value) (l : List Hl) (p : Bs) (ep : Int) (w : World) (hv : NsH w v l) (hs : Szs l) (hp : p.length ≤ 1000000) :
    Calls Try.prog 13 #[v, .string (B p), .int .i64 ep] w fun e w' => TwoR w (inst l p ep) e w' := by
  have f1 := fp_alloc w (.cells #[.string (B p), .int .i64 ep, .int .i64 1] TH)
  have hbx := heap_alloc_new w (.cells #[.string (B p), .int .i64 ep, .int .i64 1] TH)
  have h1 := fun W (f : Fp Non w W) => RightH_c v l W (hv.non f) hs.p hs.n
  have h2 := fun W => fits_c ⟨p, ep, 1⟩ W hp
  have h3 := fun W (f : Fp Non w W) (h : RtH l) => place_c v l p W (hv.non f) h.up hs.n
  have h4 := fun W (f : Fp Non w W) (h : RtH l) => with_c v l ⟨p, ep, 1⟩ W (hv.non f) h.up h.len
  unfold hlV strV at h2 h4
  simp only at h2 h4
  have hsn := hs.n
  obtain ⟨r, hr⟩ : ∃ r, inst l p ep = r := ⟨_, rfl⟩
  have e : r = if rightH l = true ∧ okH ⟨p, ep, 1⟩ = true ∧ mayI l p ep = true then withR l ⟨p, ep, 1⟩ else none := by
    rw [← hr]; unfold inst okH
    simp only [show okA 1 = true from by decide, Bool.and_true, Bool.and_eq_true, and_assoc]
  rw [hr]
  have hri : rightH l = true → RtH l := (right_iff l).1
  obtain ⟨b1, hb1⟩ : ∃ b, rightH l = b := ⟨_, rfl⟩
  obtain ⟨b2, hb2⟩ : ∃ b, okH ⟨p, ep, 1⟩ = b := ⟨_, rfl⟩
  rw [hb1] at h1 e hri
  rw [hb2] at h2 e
  have hgl : b1 = true → getH l p = if h : plH l p < l.length then (if l[plH l p].d = p then some l[plH l p] else none) else none := fun h => getH_place (hri h).up p
  have hgc : ∀ k (h : k < l.length), ∃ g o cap, v = .slice (some ⟨g, o, none⟩) l.length cap ∧ NdAtH w g (o + k * 3) l[k] := fun k h => by
    obtain ⟨g, o, cap, e, _, _, _, hcell⟩ := hv.at (by omega)
    exact ⟨g, o, cap, e, hcell k h⟩
  obtain ⟨ao, cap, rfl⟩ := hv.shape
  have H1 := Lib.hid h1
  have H2 := Lib.hid h2
  have HE := Lib.hid (And.intro e (And.intro hri (And.intro hgl hgc)))
  have H34 := Lib.hid (And.intro h3 h4)
  have HF1 := Lib.hid (And.intro f1 hbx)
  obtain ⟨n, hn⟩ : ∃ n, n = l.length := ⟨_, rfl⟩
  have HN := Lib.hid hn
  rw [← hn] at H1 H34 hsn ⊢
  clear f1 hbx h1 h2 h3 h4 hv hs hp hr e hri hb1 hb2 hgl hgc hn
  have c0 : (w.alloc (.cells #[.string (B p), .int .i64 ep, .int .i64 1] TH)).cell? ⟨w.heap.size, 0, none⟩ = some (.string (B p)) := by rw [cell_of_row _ _ _ _ _ _ HF1.out.2]; rfl
  have c1 : (w.alloc (.cells #[.string (B p), .int .i64 ep, .int .i64 1] TH)).cell? ⟨w.heap.size, 1, none⟩ = some (.int .i64 ep) := by rw [cell_of_row _ _ _ _ _ _ HF1.out.2]; rfl
  have c2 : (w.alloc (.cells #[.string (B p), .int .i64 ep, .int .i64 1] TH)).cell? ⟨w.heap.size, 2, none⟩ = some (.int .i64 1) := by rw [cell_of_row _ _ _ _ _ _ HF1.out.2]; rfl
  go_enter Try.func13, Try.ntmps13
  go_wp2_with fail
  refine (H1.out _ HF1.out.1).mono ?_
  rintro e w1 ⟨rfl, hf⟩
  have HF := Lib.hid (HF1.out.1.then hf)
  have HB := Lib.hid (hf.heap HF1.out.2 (fun h => h))
  clear hf c0 c1 c2
  cases b1 with
  | false =>
    go_wp2
    go_ret2
    have ho : r = none := by rw [HE.out.1]; simp
    rw [ho]
    exact TwoR.none HF.out
  | true =>
    have d0 : w1.cell? ⟨w.heap.size, 0, none⟩ = some (.string (B p)) := by rw [cell_of_row _ _ _ _ _ _ HB.out]; rfl
    have d1 : w1.cell? ⟨w.heap.size, 1, none⟩ = some (.int .i64 ep) := by rw [cell_of_row _ _ _ _ _ _ HB.out]; rfl
    have d2 : w1.cell? ⟨w.heap.size, 2, none⟩ = some (.int .i64 1) := by rw [cell_of_row _ _ _ _ _ _ HB.out]; rfl
    go_wp2_with fail
    refine (H2.out _).mono ?_
    rintro e w2 ⟨rfl, hf⟩
    have HG := Lib.hid (And.intro (HF.out.then hf) (hf.heap HB.out (fun h => h)))
    clear hf d0 d1 d2
    cases b2 with
    | false =>
      go_wp2
      go_ret2
      have ho : r = none := by rw [HE.out.1]; simp
      rw [ho]
      exact TwoR.none HG.out.1
    | true =>
      go_wp2_with fail
      refine (H34.out.1 _ HG.out.1 (HE.out.2.1 (by trivial))).mono ?_
      rintro e w3 ⟨rfl, hf⟩
      have HK := Lib.hid (And.intro (HG.out.1.then hf) (hf.heap HG.out.2 (fun h => h)))
      clear hf
      have d0 : w3.cell? ⟨w.heap.size, 0, none⟩ = some (.string (B p)) := by rw [cell_of_row _ _ _ _ _ _ HK.out.2]; rfl
      have d1 : w3.cell? ⟨w.heap.size, 1, none⟩ = some (.int .i64 ep) := by rw [cell_of_row _ _ _ _ _ _ HK.out.2]; rfl
      have d2 : w3.cell? ⟨w.heap.size, 2, none⟩ = some (.int .i64 1) := by rw [cell_of_row _ _ _ _ _ _ HK.out.2]; rfl
      have hgl := HE.out.2.2.1 (by trivial)
      cases hg : getH l p with
      | none =>
        have hm : mayI l p ep = true := by unfold mayI; rw [hg]
        have ho : r = withR l ⟨p, ep, 1⟩ := by rw [HE.out.1, if_pos ⟨by trivial, by trivial, hm⟩]
        have HO := Lib.hid ho
        simp only [Option.isSome_none]
        clear hgl hg hm ho
        go_wp2_with fail
        refine (H34.out.2 _ HK.out.1 (HE.out.2.1 (by trivial))).mono ?_
        rintro e w4 hW
        obtain ⟨v4, rfl, hN⟩ := hW.ex
        have HR := Lib.hid (And.intro hN (HK.out.1.then hW.fp))
        clear hW hN
        go_wp2
        go_ret2
        rw [HO.out]
        exact ⟨⟨_, rfl, HR.out.1⟩, HR.out.2⟩
      | some y =>
        rw [hg] at hgl
        have hpl : plH l p < l.length := by
          by_cases h : plH l p < l.length
          · exact h
          · rw [dif_neg h] at hgl; cases hgl
        rw [dif_pos hpl] at hgl
        have hy : y = l[plH l p] := by
          split at hgl
          · injection hgl
          · cases hgl
        obtain ⟨g, o, cap', e, hnd⟩ := HE.out.2.2.2 _ hpl
        have hnl := HN.out
        injection e with e1 e2 e3
        subst e1 e3
        have c1 := (hnd.keep HK.out.1 (fun h => h)).c1
        rw [← hy] at c1
        have hm : mayI l p ep = decide (y.t < ep) := by unfold mayI; rw [hg]
        obtain ⟨k, hk⟩ : ∃ k, plH l p = k := ⟨_, rfl⟩
        rw [hk] at c1 hpl ⊢
        obtain ⟨yt, hyt⟩ : ∃ yt, y.t = yt := ⟨_, rfl⟩
        rw [hyt] at c1 hm
        simp only [Option.isSome_some]
        have q2 : ((k : Int) < (n : Int)) = True := eq_true (by omega)
        have q3 : (k < n) = True := eq_true (by omega)
        have hkb : k ≤ 1000000 := by omega
        by_cases hlt : yt < ep
        · have ho : r = withR l ⟨p, ep, 1⟩ := by rw [HE.out.1, if_pos ⟨by trivial, by trivial, by rw [hm]; exact decide_eq_true hlt⟩]
          have HO := Lib.hid ho
          have q5 : (ep ≤ yt) = False := eq_false (by omega)
          clear hgl hg hm ho hlt hy hyt e2 hnd hpl hk hnl
          go_wp2_with fail
          refine (H34.out.2 _ HK.out.1 (HE.out.2.1 (by trivial))).mono ?_
          rintro e w4 hW
          obtain ⟨v4, rfl, hN⟩ := hW.ex
          have HR := Lib.hid (And.intro hN (HK.out.1.then hW.fp))
          clear hW hN
          go_wp2
          go_ret2
          rw [HO.out]
          exact ⟨⟨_, rfl, HR.out.1⟩, HR.out.2⟩
        · have ho : r = none := by rw [HE.out.1, if_neg (fun h => by have := h.2.2; rw [hm] at this; exact hlt (of_decide_eq_true this))]
          have HO := Lib.hid ho
          have q5 : (ep ≤ yt) = True := eq_true (by omega)
          clear hgl hg hm ho hlt hy hyt e2 hnd hpl hk hnl
          go_wp2
          go_ret2
          rw [HO.out]
          exact TwoR.none HK.out.1

set_option maxHeartbeats 4000000 in
theorem Drop_c (v : Value) (l : List Hl) (p : Bs) (ep : Int) (w : World) (hv : NsH w v l) (hs : Szs l) (hp : p.length ≤ 1000000) :
    Calls Try.prog 15 #[v, .string (B p), .int .i64 ep] w fun e w' => TwoR w (drp l p ep) e w' := by
  have f1 := fp_alloc w (.cells #[.string (B p), .int .i64 ep, .int .i64 2] TH)
  have hbx := heap_alloc_new w (.cells #[.string (B p), .int .i64 ep, .int .i64 2] TH)
  have h1 := fun W (f : Fp Non w W) => RightH_c v l W (hv.non f) hs.p hs.n
  have h2 := fun W (f : Fp Non w W) => ContainsH_c v l ⟨p, ep, 2⟩ W (hv.non f) hs.n
  have h4 := fun W (f : Fp Non w W) (h : RtH l) => with_c v l ⟨p, ep, 3⟩ W (hv.non f) h.up h.len
  unfold hlV strV at h2 h4
  simp only at h2 h4
  have hsn := hs.n
  obtain ⟨r, hr⟩ : ∃ r, drp l p ep = r := ⟨_, rfl⟩
  have hri : rightH l = true → RtH l := (right_iff l).1
  obtain ⟨b1, hb1⟩ : ∃ b, rightH l = b := ⟨_, rfl⟩
  obtain ⟨b2, hb2⟩ : ∃ b, decide ((⟨p, ep, 2⟩ : Hl) ∈ l) = b := ⟨_, rfl⟩
  have e : r = if b1 = true ∧ b2 = true then withR l ⟨p, ep, 3⟩ else none := by
    rw [← hr, ← hb1, ← hb2]; unfold drp; simp only [decide_eq_true_eq]
  rw [hr]
  rw [hb1] at h1 hri
  rw [hb2] at h2
  obtain ⟨ao, cap, rfl⟩ := hv.shape
  generalize l.length = n at *
  have H1 := Lib.hid h1
  have H2 := Lib.hid h2
  have H4 := Lib.hid h4
  have HE := Lib.hid (And.intro e hri)
  have HF1 := Lib.hid (And.intro f1 hbx)
  clear f1 hbx h1 h2 h4 hv hs hp hr e hri hb1 hb2
  have c0 : (w.alloc (.cells #[.string (B p), .int .i64 ep, .int .i64 2] TH)).cell? ⟨w.heap.size, 0, none⟩ = some (.string (B p)) := by rw [cell_of_row _ _ _ _ _ _ HF1.out.2]; rfl
  have c1 : (w.alloc (.cells #[.string (B p), .int .i64 ep, .int .i64 2] TH)).cell? ⟨w.heap.size, 1, none⟩ = some (.int .i64 ep) := by rw [cell_of_row _ _ _ _ _ _ HF1.out.2]; rfl
  have c2 : (w.alloc (.cells #[.string (B p), .int .i64 ep, .int .i64 2] TH)).cell? ⟨w.heap.size, 2, none⟩ = some (.int .i64 2) := by rw [cell_of_row _ _ _ _ _ _ HF1.out.2]; rfl
  go_enter Try.func15, Try.ntmps15
  go_wp2_with fail
  refine (H1.out _ HF1.out.1).mono ?_
  rintro e w1 ⟨rfl, hf⟩
  have HF := Lib.hid (HF1.out.1.then hf)
  have HB := Lib.hid (hf.heap HF1.out.2 (fun h => h))
  clear hf c0 c1 c2
  cases b1 with
  | false =>
    go_wp2
    go_ret2
    have ho : r = none := by rw [HE.out.1]; simp
    rw [ho]
    exact TwoR.none HF.out
  | true =>
    have d0 : w1.cell? ⟨w.heap.size, 0, none⟩ = some (.string (B p)) := by rw [cell_of_row _ _ _ _ _ _ HB.out]; rfl
    have d1 : w1.cell? ⟨w.heap.size, 1, none⟩ = some (.int .i64 ep) := by rw [cell_of_row _ _ _ _ _ _ HB.out]; rfl
    have d2 : w1.cell? ⟨w.heap.size, 2, none⟩ = some (.int .i64 2) := by rw [cell_of_row _ _ _ _ _ _ HB.out]; rfl
    go_wp2_with fail
    refine (H2.out _ HF.out).mono ?_
    rintro e w2 ⟨rfl, hf⟩
    have HG := Lib.hid (And.intro (HF.out.then hf) (hf.heap HB.out (fun h => h)))
    clear hf d0 d1 d2
    cases b2 with
    | false =>
      go_wp2
      go_ret2
      have ho : r = none := by rw [HE.out.1]; simp
      rw [ho]
      exact TwoR.none HG.out.1
    | true =>
      have d0 : w2.cell? ⟨w.heap.size, 0, none⟩ = some (.string (B p)) := by rw [cell_of_row _ _ _ _ _ _ HG.out.2]; rfl
      have d1 : w2.cell? ⟨w.heap.size, 1, none⟩ = some (.int .i64 ep) := by rw [cell_of_row _ _ _ _ _ _ HG.out.2]; rfl
      have d2 : w2.cell? ⟨w.heap.size, 2, none⟩ = some (.int .i64 2) := by rw [cell_of_row _ _ _ _ _ _ HG.out.2]; rfl
      have fz : w2.frozen? ⟨w.heap.size, 2, none⟩ = false := by simp [World.frozen?, HG.out.2]
      have hst := heap_setCell_same w2 w.heap.size 2 _ TH (.int .i64 3) HG.out.2
      have s0 : (w2.setCell ⟨w.heap.size, 2, none⟩ (.int .i64 3)).cell? ⟨w.heap.size, 0, none⟩ = some (.string (B p)) := by rw [cell_of_row _ _ _ _ _ _ hst]; rfl
      have s1 : (w2.setCell ⟨w.heap.size, 2, none⟩ (.int .i64 3)).cell? ⟨w.heap.size, 1, none⟩ = some (.int .i64 ep) := by rw [cell_of_row _ _ _ _ _ _ hst]; rfl
      have s2 : (w2.setCell ⟨w.heap.size, 2, none⟩ (.int .i64 3)).cell? ⟨w.heap.size, 2, none⟩ = some (.int .i64 3) := by rw [cell_of_row _ _ _ _ _ _ hst]; rfl
      have HS := Lib.hid (HG.out.1.setCell (p := ⟨w.heap.size, 2, none⟩) (.inr (Nat.le_refl _)) (.int .i64 3))
      clear hst
      go_wp2_with fail
      refine (H4.out _ HS.out (HE.out.2 (by trivial))).mono ?_
      rintro e w4 hW
      obtain ⟨v4, rfl, hN⟩ := hW.ex
      have HR := Lib.hid (And.intro hN (HS.out.then hW.fp))
      have ho : r = withR l ⟨p, ep, 3⟩ := by rw [HE.out.1, if_pos ⟨by trivial, by trivial⟩]
      have HO := Lib.hid ho
      clear hW hN ho
      go_wp2
      go_ret2
      rw [HO.out]
      exact ⟨⟨_, rfl, HR.out.1⟩, HR.out.2⟩
end Go.Proofs.Ytcjpgenlhphapaa
