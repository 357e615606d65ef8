/- The document's Freeze, Install, Drop (gen_kd.py) -/
import Derived.Test.YtcjpgenlhphapaaKc
namespace Go.Proofs.Ytcjpgenlhphapaa
set_option maxRecDepth 20000
set_option linter.unusedVariables false
set_option linter.unusedSimpArgs false
open Go.RowKit Pm


theorem withR_yes {l : List Hl} {x : Hl} (h : (getH l x.d).isSome = true ∨ l.length < 32) : withR l x = some (putH l x) := by unfold withR; rw [if_pos h]
theorem withR_no {l : List Hl} {x : Hl} (h : getH l x.d = none) (h2 : ¬ l.length < 32) : withR l x = none := by
  unfold withR; rw [if_neg]; rintro (h3 | h3)
  · rw [h] at h3; cases h3
  · exact h2 h3

set_option maxHeartbeats 4000000 in
theorem rFreeze_c (v : Value) (l : List Hl) (p : Bs) (w : World) (hv : NsH w v l) (hs : Szs l) (hp : p.length ≤ 1000000) :
    Calls Try.prog 12 #[v, .string (B p)] w fun e w' => TwoR w (frz l p) e w' := by
  have h1 := rOf_c v l p w hv hs hp
  have h2 := fun W (f : Fp Non w W) => rFind_c v l p W (hv.non f) hs.n
  have hwi := fun (t : Int) W (f : Fp Non w W) (h : RtH l) => rPut_c v l ⟨p, t, 2⟩ W (hv.non f) h.up (by have := h.len; omega)
  unfold hlV strV at hwi
  simp only at hwi
  have hsn := hs.n
  obtain ⟨r, hr⟩ : ∃ r, frz l p = r := ⟨_, rfl⟩
  rw [hr]
  cases ho : ofR l p with
  | none =>
    have e : r = none := by rw [← hr]; unfold frz; rw [pick_none ho]
    have HO := Lib.hid e
    obtain ⟨ao, cap, rfl⟩ := hv.shape
    rw [ho] at h1
    generalize l.length = n at *
    have H1 := Lib.hid h1
    clear h1 h2 hv hs hp e ho hsn hwi hr
    go_enter Try.func12, Try.ntmps12
    go_wp2_with fail
    refine H1.out.mono ?_
    rintro e w1 ⟨rfl, hf⟩
    have HF := Lib.hid hf
    clear hf
    unfold idx
    go_wp2
    go_ret2
    rw [HO.out]
    exact TwoR.none HF.out
  | some k =>
    have hk := ofR_lt ho
    have hrt := (pick_ok (pick_at ho)).1
    have e : r = if l[k].a = 1 then withR l ⟨p, l[k].t, 2⟩ else none := by rw [← hr]; unfold frz; rw [pick_at ho]
    obtain ⟨g, o, cap, rfl, _, _, _, hcell⟩ := hv.at (by omega)
    have hc := hcell k hk
    have hwi := hwi l[k].t
    rw [ho] at h1
    have hfg := fnd_get l p
    have h32 := hrt.len
    obtain ⟨n, hn⟩ : ∃ n, n = l.length := ⟨_, rfl⟩
    rw [← hn] at h1 h2 hk hsn hwi h32 ⊢
    obtain ⟨x, hx⟩ : ∃ x, x = l[k] := ⟨_, rfl⟩
    rw [← hx] at hc e hwi
    obtain ⟨xd, xt, xa⟩ := x
    have c1 := hc.c1; have c2 := hc.c2
    simp only at c1 c2 e hwi
    have q1 : ((k : Int) < 0) = False := eq_false (by omega)
    have q2 : ((k : Int) < (n : Int)) = True := eq_true (by omega)
    have q3 : (k < n) = True := eq_true hk
    have H1 := Lib.hid h1
    have HC := Lib.hid (And.intro c1 c2)
    have HE := Lib.hid e
    have HP := Lib.hid (fun W f => hwi W f hrt)
    have HG := Lib.hid (And.intro hfg hn)
    have H2 := Lib.hid h2
    clear h1 h2 hv hs hp e ho hcell hn hk hc hwi hrt hx hr c1 c2 hfg
    go_enter Try.func12, Try.ntmps12
    go_wp2_with fail
    refine H1.out.mono ?_
    rintro e w1 ⟨rfl, hf⟩
    have HF := Lib.hid hf
    have c1 := hf.cell HC.out.1 (fun h => h)
    have c2 := hf.cell HC.out.2 (fun h => h)
    clear hf
    simp only [idx]
    by_cases ha : xa = 1
    · subst ha
      go_wp2_with fail
      refine (H2.out _ HF.out).mono ?_
      rintro e w2 ⟨rfl, hf⟩
      have HF2 := Lib.hid (HF.out.then hf)
      have c1 := hf.cell c1 (fun h => h)
      clear hf c2
      cases hfn : fnd l p with
      | none =>
        have hg : getH l p = none := by have := HG.out.1; rw [hfn] at this; exact this
        simp only [idx]
        by_cases h3 : n < 32
        · have q5 : ((32 : Int) ≤ (n : Int)) = False := eq_false (by omega)
          have HO := Lib.hid (show r = some (putH l ⟨p, xt, 2⟩) by rw [HE.out, if_pos (by trivial)]; exact withR_yes (.inr (by rw [← HG.out.2]; exact h3)))
          clear hg hfn h3
          go_wp2_with fail
          refine (HP.out _ HF2.out).mono ?_
          rintro e wp ⟨vp, rfl, hN, hf⟩
          have HR := Lib.hid (And.intro hN (HF2.out.then hf))
          clear hN hf
          go_wp2
          go_ret2
          rw [HO.out]
          exact ⟨⟨_, rfl, HR.out.1⟩, HR.out.2⟩
        · have q5 : ((32 : Int) ≤ (n : Int)) = True := eq_true (by omega)
          have HO := Lib.hid (show r = none by rw [HE.out, if_pos (by trivial)]; exact withR_no hg (by rw [← HG.out.2]; exact h3))
          clear hg hfn h3
          go_wp2
          go_ret2
          rw [HO.out]
          exact TwoR.none HF2.out
      | some i =>
        have hg : (getH l p).isSome = true := by have := HG.out.1; rw [hfn] at this; obtain ⟨_, h⟩ := this; rw [h]; rfl
        have q5 : ((i : Int) < 0) = False := eq_false (by omega)
        have HO := Lib.hid (show r = some (putH l ⟨p, xt, 2⟩) by rw [HE.out, if_pos (by trivial)]; exact withR_yes (.inl hg))
        simp only [idx]
        clear hg hfn
        go_wp2_with fail
        refine (HP.out _ HF2.out).mono ?_
        rintro e wp ⟨vp, rfl, hN, hf⟩
        have HR := Lib.hid (And.intro hN (HF2.out.then hf))
        clear hN hf
        go_wp2
        go_ret2
        rw [HO.out]
        exact ⟨⟨_, rfl, HR.out.1⟩, HR.out.2⟩
    · have q5 : (xa == 1) = false := beq_eq_false_iff_ne.2 ha
      have q6 : (xa = 1) = False := eq_false ha
      have q7 : (xa != 1) = true := by simp [bne, q5]
      have HO := Lib.hid (show r = none by rw [HE.out, if_neg ha])
      clear ha
      go_wp2
      go_ret2
      rw [HO.out]
      exact TwoR.none HF.out

set_option maxHeartbeats 8000000 in
theorem rInstall_c (v : Value) (l : List Hl) (p : Bs) (ep : Int) (w : World) (hv : NsH w v l) (hs : Szs l) (hp : p.length ≤ 1000000) :
    Calls Try.prog 14 #[v, .string (B p), .int .i64 ep] w fun e w' => TwoR w (inst l p ep) e w' := by
  have h1 := rFind_c v l p w hv hs.n
  have h2 := fun W (f : Fp Non w W) => rRightH_c v l W (hv.non f) hs.p hs.n
  have h3 := fun W => rRight_g p W (sz_of hp (by omega))
  have h4 := fun W (f : Fp Non w W) (h : RtH l) => rPut_c v l ⟨p, ep, 1⟩ W (hv.non f) h.up (by have := h.len; omega)
  unfold hlV strV at h4
  simp only at h4
  have hsn := hs.n
  obtain ⟨r, hr⟩ : ∃ r, inst l p ep = r := ⟨_, rfl⟩
  have hri : rightH l = true → RtH l := (right_iff l).1
  obtain ⟨b1, hb1⟩ : ∃ b, rightH l = b := ⟨_, rfl⟩
  obtain ⟨b2, hb2⟩ : ∃ b, (split p).isSome = b := ⟨_, rfl⟩
  have e : r = if b1 = true ∧ b2 = true ∧ (0 ≤ ep ∧ ep ≤ 281474976710656) ∧ mayI l p ep = true then withR l ⟨p, ep, 1⟩ else none := by
    rw [← hr, ← hb1, ← hb2]; unfold inst okP okE mxN; simp only [decide_eq_true_eq]
  rw [hr]
  rw [hb1] at h2 hri
  rw [hb2] at h3
  have hfg := fnd_get l p
  have hgc : ∀ k (h : k < l.length), ∃ g o cap, v = .slice (some ⟨g, o, none⟩) l.length cap ∧ NdAtH w g (o + k * 3) l[k] := fun k h => by
    obtain ⟨g, o, cap, e, _, _, _, hcell⟩ := hv.at (by omega)
    exact ⟨g, o, cap, e, hcell k h⟩
  obtain ⟨ao, cap, rfl⟩ := hv.shape
  have HE := Lib.hid (And.intro e (And.intro hri (And.intro hfg hgc)))
  obtain ⟨n, hn⟩ : ∃ n, n = l.length := ⟨_, rfl⟩
  have HN := Lib.hid hn
  rw [← hn] at h1 h2 h4 hsn ⊢
  have H1 := Lib.hid h1
  have H2 := Lib.hid h2
  have H3 := Lib.hid h3
  have H4 := Lib.hid h4
  clear h1 h2 h3 h4 hv hs hp hr e hri hb1 hb2 hfg hgc hn
  go_enter Try.func14, Try.ntmps14
  go_wp2_with fail
  refine H1.out.mono ?_
  rintro e w1 ⟨rfl, hf⟩
  have HF := Lib.hid hf
  clear hf
  go_wp2_with fail
  refine (H2.out _ HF.out).mono ?_
  rintro e w2 ⟨rfl, hf⟩
  have HF2 := Lib.hid (HF.out.then hf)
  clear hf
  cases b1 with
  | false =>
    have HO := Lib.hid (show r = none by rw [HE.out.1]; simp)
    go_wp2
    go_ret2
    rw [HO.out]
    exact TwoR.none HF2.out
  | true =>
  go_wp2_with fail
  refine (H3.out _).mono ?_
  rintro e w3 ⟨rfl, hg⟩
  have HF3 := Lib.hid (HF2.out.then hg.fp)
  clear hg
  cases b2 with
  | false =>
    have HO := Lib.hid (show r = none by rw [HE.out.1]; simp)
    go_wp2
    go_ret2
    rw [HO.out]
    exact TwoR.none HF3.out
  | true =>
  have HRT := Lib.hid (HE.out.2.1 (by trivial))
  have HP := Lib.hid (fun W f => H4.out W f HRT.out)
  have h32 : n ≤ 32 := by have := HRT.out.len; have := HN.out; omega
  by_cases he0 : ep < 0
  · have q1 : (ep < 0) = True := eq_true he0
    have HO := Lib.hid (show r = none by rw [HE.out.1, if_neg (fun h => by have := h.2.2.1; omega)])
    clear he0
    go_wp2
    go_ret2
    rw [HO.out]
    exact TwoR.none HF3.out
  have q1 : (ep < 0) = False := eq_false he0
  by_cases he1 : 281474976710656 < ep
  · have q2 : ((281474976710656 : Int) < ep) = True := eq_true he1
    have HO := Lib.hid (show r = none by rw [HE.out.1, if_neg (fun h => by have := h.2.2.1; omega)])
    clear he0 he1
    go_wp2
    go_ret2
    rw [HO.out]
    exact TwoR.none HF3.out
  have q2 : ((281474976710656 : Int) < ep) = False := eq_false he1
  have hbd : 0 ≤ ep ∧ ep ≤ 281474976710656 := by omega
  have HBD := Lib.hid hbd
  clear he0 he1 hbd
  cases hfn : fnd l p with
  | none =>
    have hg : getH l p = none := by have := HE.out.2.2.1; rw [hfn] at this; exact this
    have hmy : mayI l p ep = true := by unfold mayI; rw [hg]
    have hw : r = withR l ⟨p, ep, 1⟩ := by rw [HE.out.1, if_pos ⟨by trivial, by trivial, HBD.out, hmy⟩]
    simp only [idx]
    by_cases h3 : n < 32
    · have q5 : ((32 : Int) ≤ (n : Int)) = False := eq_false (by omega)
      have HO := Lib.hid (show r = some (putH l ⟨p, ep, 1⟩) by rw [hw]; exact withR_yes (.inr (by rw [← HN.out]; exact h3)))
      clear hg hfn h3 hw hmy
      go_wp2_with fail
      refine (HP.out _ HF3.out).mono ?_
      rintro e wp ⟨vp, rfl, hN, hf⟩
      have HR := Lib.hid (And.intro hN (HF3.out.then hf))
      clear hN hf
      go_wp2
      go_ret2
      rw [HO.out]
      exact ⟨⟨_, rfl, HR.out.1⟩, HR.out.2⟩
    · have q5 : ((32 : Int) ≤ (n : Int)) = True := eq_true (by omega)
      have HO := Lib.hid (show r = none by rw [hw]; exact withR_no hg (by rw [← HN.out]; exact h3))
      clear hg hfn h3 hw hmy
      go_wp2
      go_ret2
      rw [HO.out]
      exact TwoR.none HF3.out
  | some i =>
    have hgi : ∃ h : i < l.length, getH l p = some l[i] := by have := HE.out.2.2.1; rw [hfn] at this; exact this
    obtain ⟨hil, hg⟩ := hgi
    obtain ⟨g, o, cap', e, hnd⟩ := HE.out.2.2.2 i hil
    injection e with e1 e2 e3
    subst e1 e3
    have c1 := (hnd.keep HF3.out (fun h => h)).c1
    obtain ⟨yt, hyt⟩ : ∃ yt, l[i].t = yt := ⟨_, rfl⟩
    rw [hyt] at c1
    have hmy : mayI l p ep = decide (yt < ep) := by unfold mayI; rw [hg]; simp only [hyt]
    have hnl := HN.out
    have q3 : ((i : Int) < 0) = False := eq_false (by omega)
    have q4 : ((0 : Int) ≤ (i : Int)) = True := eq_true (by omega)
    have q5 : ((i : Int) < (n : Int)) = True := eq_true (by omega)
    have q6 : (i < n) = True := eq_true (by omega)
    simp only [idx]
    by_cases hlt : yt < ep
    · have q7 : (ep ≤ yt) = False := eq_false (by omega)
      have HO := Lib.hid (show r = some (putH l ⟨p, ep, 1⟩) by
        rw [HE.out.1, if_pos ⟨by trivial, by trivial, HBD.out, by rw [hmy]; exact decide_eq_true hlt⟩]
        exact withR_yes (.inl (by simp only; rw [hg]; rfl)))
      clear hg hfn hlt hmy hyt e2 hnd hil hnl
      go_wp2_with fail
      refine (HP.out _ HF3.out).mono ?_
      rintro e wp ⟨vp, rfl, hN, hf⟩
      have HR := Lib.hid (And.intro hN (HF3.out.then hf))
      clear hN hf
      go_wp2
      go_ret2
      rw [HO.out]
      exact ⟨⟨_, rfl, HR.out.1⟩, HR.out.2⟩
    · have q7 : (ep ≤ yt) = True := eq_true (by omega)
      have HO := Lib.hid (show r = none by rw [HE.out.1, if_neg (fun h => by have := h.2.2.2; rw [hmy] at this; exact hlt (of_decide_eq_true this))])
      clear hg hfn hlt hmy hyt e2 hnd hil hnl
      go_wp2
      go_ret2
      rw [HO.out]
      exact TwoR.none HF3.out

set_option maxHeartbeats 8000000 in
theorem rDrop_c (v : Value) (l : List Hl) (p : Bs) (ep : Int) (w : World) (hv : NsH w v l) (hs : Szs l) :
    Calls Try.prog 16 #[v, .string (B p), .int .i64 ep] w fun e w' => TwoR w (drp l p ep) e w' := by
  have h1 := rFind_c v l p w hv hs.n
  have h2 := fun W (f : Fp Non w W) => rRightH_c v l W (hv.non f) hs.p hs.n
  have h4 := fun W (f : Fp Non w W) (h : RtH l) => rPut_c v l ⟨p, ep, 3⟩ W (hv.non f) h.up (by have := h.len; omega)
  unfold hlV strV at h4
  simp only at h4
  have hsn := hs.n
  obtain ⟨r, hr⟩ : ∃ r, drp l p ep = r := ⟨_, rfl⟩
  have hri : rightH l = true → RtH l := (right_iff l).1
  obtain ⟨b1, hb1⟩ : ∃ b, rightH l = b := ⟨_, rfl⟩
  have e : r = if b1 = true ∧ (⟨p, ep, 2⟩ : Hl) ∈ l then withR l ⟨p, ep, 3⟩ else none := by
    rw [← hr, ← hb1]; rfl
  rw [hr]
  rw [hb1] at h2 hri
  have hfg := fnd_get l p
  have hgc : ∀ k (h : k < l.length), ∃ g o cap, v = .slice (some ⟨g, o, none⟩) l.length cap ∧ NdAtH w g (o + k * 3) l[k] := fun k h => by
    obtain ⟨g, o, cap, e, _, _, _, hcell⟩ := hv.at (by omega)
    exact ⟨g, o, cap, e, hcell k h⟩
  obtain ⟨ao, cap, rfl⟩ := hv.shape
  have HE := Lib.hid (And.intro e (And.intro hri (And.intro hfg hgc)))
  obtain ⟨n, hn⟩ : ∃ n, n = l.length := ⟨_, rfl⟩
  have HN := Lib.hid hn
  rw [← hn] at h1 h2 h4 hsn ⊢
  have H1 := Lib.hid h1
  have H2 := Lib.hid h2
  have H4 := Lib.hid h4
  clear h1 h2 h4 hv hs hr e hri hb1 hfg hgc hn
  go_enter Try.func16, Try.ntmps16
  go_wp2_with fail
  refine H1.out.mono ?_
  rintro e w1 ⟨rfl, hf⟩
  have HF := Lib.hid hf
  clear hf
  go_wp2_with fail
  refine (H2.out _ HF.out).mono ?_
  rintro e w2 ⟨rfl, hf⟩
  have HF2 := Lib.hid (HF.out.then hf)
  clear hf
  cases b1 with
  | false =>
    have HO := Lib.hid (show r = none by rw [HE.out.1]; simp)
    go_wp2
    go_ret2
    rw [HO.out]
    exact TwoR.none HF2.out
  | true =>
  have HRT := Lib.hid (HE.out.2.1 (by trivial))
  have HP := Lib.hid (fun W f => H4.out W f HRT.out)
  cases hfn : fnd l p with
  | none =>
    have hg : getH l p = none := by have := HE.out.2.2.1; rw [hfn] at this; exact this
    have HO := Lib.hid (show r = none by rw [HE.out.1, if_neg (fun h => getH_none hg _ h.2 rfl)])
    simp only [idx]
    clear hg hfn
    go_wp2
    go_ret2
    rw [HO.out]
    exact TwoR.none HF2.out
  | some i =>
    have hgi : ∃ h : i < l.length, getH l p = some l[i] := by have := HE.out.2.2.1; rw [hfn] at this; exact this
    obtain ⟨hil, hg⟩ := hgi
    obtain ⟨g, o, cap', e, hnd⟩ := HE.out.2.2.2 i hil
    injection e with e1 e2 e3
    subst e1 e3
    have c1 := (hnd.keep HF2.out (fun h => h)).c1
    have c2 := (hnd.keep HF2.out (fun h => h)).c2
    obtain ⟨y, hy⟩ : ∃ y, y = l[i] := ⟨_, rfl⟩
    rw [← hy] at c1 c2 hg
    have hyd := (getH_some hg).2
    have hym := (getH_some hg).1
    obtain ⟨yd, yt, ya⟩ := y
    simp only at c1 c2 hyd
    subst hyd
    have hmm : (⟨yd, ep, 2⟩ : Hl) ∈ l ↔ yt = ep ∧ ya = 2 := by
      constructor
      · intro h
        have := getH_mem HRT.out.up h
        simp only at this
        rw [hg] at this
        injection this with this
        injection this with _ h1 h2
        exact ⟨h1, h2⟩
      · rintro ⟨rfl, rfl⟩; exact hym
    have hnl := HN.out
    have q3 : ((i : Int) < 0) = False := eq_false (by omega)
    have q5 : ((i : Int) < (n : Int)) = True := eq_true (by omega)
    have q6 : (i < n) = True := eq_true (by omega)
    simp only [idx]
    by_cases ha : ya = 2
    · subst ha
      by_cases ht : yt = ep
      · subst ht
        have HO := Lib.hid (show r = some (putH l ⟨yd, yt, 3⟩) by
          rw [HE.out.1, if_pos ⟨by trivial, hym⟩]
          exact withR_yes (.inl (by simp only; rw [hg]; rfl)))
        clear hg hfn e2 hnd hil hnl hmm hym hy
        go_wp2_with fail
        refine (HP.out _ HF2.out).mono ?_
        rintro e wp ⟨vp, rfl, hN, hf⟩
        have HR := Lib.hid (And.intro hN (HF2.out.then hf))
        clear hN hf
        go_wp2
        go_ret2
        rw [HO.out]
        exact ⟨⟨_, rfl, HR.out.1⟩, HR.out.2⟩
      · have q7 : (yt == ep) = false := beq_eq_false_iff_ne.2 ht
        have q8 : (yt != ep) = true := by simp [bne, q7]
        have q9 : (yt = ep) = False := eq_false ht
        have HO := Lib.hid (show r = none by rw [HE.out.1, if_neg (fun h => ht (hmm.1 h.2).1)])
        clear hg hfn e2 hnd hil hnl hmm hym hy ht
        go_wp2
        go_ret2
        rw [HO.out]
        exact TwoR.none HF2.out
    · have q7 : (ya == 2) = false := beq_eq_false_iff_ne.2 ha
      have q8 : (ya != 2) = true := by simp [bne, q7]
      have q9 : (ya = 2) = False := eq_false ha
      have HO := Lib.hid (show r = none by rw [HE.out.1, if_neg (fun h => ha (hmm.1 h.2).2)])
      clear hg hfn e2 hnd hil hnl hmm hym hy ha
      go_wp2
      go_ret2
      rw [HO.out]
      exact TwoR.none HF2.out
end Go.Proofs.Ytcjpgenlhphapaa
