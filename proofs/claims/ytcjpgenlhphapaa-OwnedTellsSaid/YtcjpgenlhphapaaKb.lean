/- The document's Of, State, Find (gen_kb.py) -/
import Derived.Test.YtcjpgenlhphapaaKa
import Derived.Test.YtcjpgenlhphapaaRd
import Derived.Test.YtcjpgenlhphapaaOd
namespace Go.Proofs.Ytcjpgenlhphapaa
set_option maxRecDepth 20000
set_option linter.unusedVariables false
set_option linter.unusedSimpArgs false
open Go.RowKit Pm


set_option maxHeartbeats 8000000 in
theorem rOf_c (v : Value) (l : List Hl) (d : Bs) (w : World) (hv : NsH w v l) (hs : Szs l) (hd : d.length ≤ 1000000) :
    Calls Try.prog 20 #[v, .string (B d)] w fun e w' => e = .returned (.int .i64 (idx (ofR l d))) ∧ Fp Non w w' := by
  have h1 := rRightH_c v l w hv hs.p hs.n
  obtain ⟨ao, cap, rfl⟩ := hv.shape
  obtain ⟨n, hnn⟩ : ∃ n, n = l.length := ⟨_, rfl⟩
  have hnb : n ≤ 1000000 := by have := hs.n; omega
  have HX := Lib.hid (And.intro hnn (And.intro hv hs))
  obtain ⟨z, hz⟩ : ∃ z, ofR l d = z := ⟨_, rfl⟩
  rw [← hnn] at h1 ⊢
  rw [hz]
  have HZ := Lib.hid hz
  have HDB := Lib.hid hd
  have H1 := Lib.hid h1
  clear h1 hv hs hnn hz hd
  go_enter Try.func20, Try.ntmps20
  go_wp2_with fail
  refine H1.out.mono ?_
  rintro e w1 ⟨rfl, hf⟩
  have F1 := Lib.hid hf
  clear hf
  cases hrt : rightH l with
  | false =>
    have hz0 : z = none := by rw [← HZ.out]; unfold ofR; rw [hrt]; rfl
    subst hz0
    clear hrt
    go_wp2
    go_ret
    exact ⟨rfl, F1.out⟩
  | true =>
  have hz1 : z = bk l d n := by rw [← HZ.out, HX.out.1]; unfold ofR; rw [hrt]; rfl
  have HRT := Lib.hid (And.intro ((right_iff l).1 hrt) hz1)
  clear hrt hz1
  go_wp2_with fail
  go_loopw [5, 6] (fun bv i wr => ∃ k : Nat, k ≤ n ∧ i = .int .i64 k ∧ ∃ b : Option Nat, bv = .int .i64 (idx b) ∧ Hid (b = bk l d k ∧ Fp Non w1 wr)) (fun _ i _ => n - (RowKit.intOf i).toNat)
  case atStart => exact ⟨0, Nat.zero_le _, rfl, none, rfl, ⟨rfl, Fp.refl _ _⟩⟩
  case round =>
    obtain ⟨k, hk, rfl, b, rfl, hR⟩ := hrel
    rename_i wr _
    by_cases hlt : k < n
    · have hkl : k < l.length := by rw [← HX.out.1]; exact hlt
      obtain ⟨g, o, cap', e, _, _, _, hcell⟩ := HX.out.2.1.at (by omega)
      rw [← HX.out.1] at e
      injection e with e1 e2 e3
      subst e1 e3
      have HFR := Lib.hid (Fp.refl Non wr)
      have HFW := Lib.hid hR.out.2
      have hcl := fun i h => (hcell i h).keep (F1.out.then hR.out.2) (fun h => h)
      have c0 := (hcl k hkl).c0
      have hbs := hR.out.1
      have hbk : bk l d (k + 1) = if inB d l[k].d = true then some k else bk l d k := by rw [← inx_at hkl]; rfl
      have hil := fun W => rIn_g d l[k].d W (sz_of HDB.out (by omega)) (sz_of (HX.out.2.2.p _ (List.getElem_mem hkl)) (by omega))
      have hch : ∀ j (hj : j < k), inB d l[k].d = true → inB d (l[j]'(by omega)).d = true → (l[j]'(by omega)).d.length < l[k].d.length := fun j hj h1 h2 => chain_lt h2 h1 (HRT.out.1.up.at (by omega) hkl hj)
      have q5 : ((k : Int) < (n : Int)) = True := eq_true (by omega)
      have q6 : (k < n) = True := eq_true hlt
      obtain ⟨xd, hxd⟩ : ∃ xd, xd = l[k].d := ⟨_, rfl⟩
      rw [← hxd] at c0 hbk hil hch
      unfold strV at c0
      obtain ⟨bb, hbb⟩ : ∃ bb, inB d xd = bb := ⟨_, rfl⟩
      rw [hbb] at hil hbk hch
      have HK := Lib.hid (And.intro hlt (And.intro hbs hbk))
      have HIL := Lib.hid hil
      clear hxd hil hbk hbb hR
      cases bb with
      | false =>
        have HN := Lib.hid (show b = bk l d (k + 1) by rw [HK.out.2.2, HK.out.2.1]; rfl)
        clear hcl hcell hch hbs hkl hlt hk
        go_wp2_with fail
        refine wp_region_held_drew (S := (fun w' => w'.cell? ⟨g, o + k * 3, none⟩ = some (.string (B xd)))) (by kernel_rfl) ?_ (fun hHeld => ?_)
        · exact c0
        try simp only [zP, zN, zS, zT, zU]
        refine tk 0 hHeld ?_
        refine tk 1 hHeld ?_
        refine tk 2 hHeld ?_
        refine tk 3 hHeld ?_
        refine tk 4 hHeld ?_
        refine tk 5 hHeld ?_
        refine rY 6 (fun K hK => ?_)
        go_simp
        go_at_call 30
        refine (HIL.out _).mono ?_
        rintro e w7 ⟨rfl, hg⟩
        have f1 := hg.fp
        have HS1 := Lib.hid (f1.cell hHeld (fun h => h))
        have F := Lib.hid ((HFR.out.drew).then f1)
        clear f1 hg
        go_wp2_with fail
        refine hK.out _ _ HS1.out (fun hHeld => ?_)
        clear hK K
        try simp only [zP, zN, zS, zT, zU]
        refine tk 7 hHeld ?_
        refine sk 8 hHeld ?_
        refine sk 9 hHeld ?_
        refine sk 10 hHeld ?_
        refine sk 11 hHeld ?_
        refine sk 12 hHeld ?_
        refine sk 13 hHeld ?_
        refine sk 14 hHeld ?_
        refine sk 15 hHeld ?_
        refine sk 16 hHeld ?_
        refine sk 17 hHeld ?_
        refine sk 18 hHeld ?_
        refine sk 19 hHeld ?_
        refine sk 20 hHeld ?_
        refine sk 21 hHeld ?_
        refine sk 22 hHeld ?_
        refine sk 23 hHeld ?_
        refine sk 24 hHeld ?_
        refine tk 25 hHeld ?_
        refine yD ?_
        have hkn := HK.out.1
        go_wp2
        go_roundw
        case rel => exact ⟨k + 1, by omega, by go_num, b, rfl, ⟨HN.out, HFW.out.then F.out⟩⟩
        case measure => simp [RowKit.intOf]; omega
      | true =>
        have HN := Lib.hid (show some k = bk l d (k + 1) by rw [HK.out.2.2]; rfl)
        cases b with
        | none =>
          clear hcl hcell hch hbs hkl hlt hk
          simp only [idx]
          go_wp2_with fail
          refine wp_region_held_drew (S := (fun w' => w'.cell? ⟨g, o + k * 3, none⟩ = some (.string (B xd)))) (by kernel_rfl) ?_ (fun hHeld => ?_)
          · exact c0
          try simp only [zP, zN, zS, zT, zU]
          refine tk 0 hHeld ?_
          refine tk 1 hHeld ?_
          refine tk 2 hHeld ?_
          refine tk 3 hHeld ?_
          refine tk 4 hHeld ?_
          refine tk 5 hHeld ?_
          refine rY 6 (fun K hK => ?_)
          go_simp
          go_at_call 30
          refine (HIL.out _).mono ?_
          rintro e w7 ⟨rfl, hg⟩
          have f1 := hg.fp
          have HS1 := Lib.hid (f1.cell hHeld (fun h => h))
          have F := Lib.hid ((HFR.out.drew).then f1)
          clear f1 hg
          go_wp2_with fail
          refine hK.out _ _ HS1.out (fun hHeld => ?_)
          clear hK K
          try simp only [zP, zN, zS, zT, zU]
          refine tk 7 hHeld ?_
          refine tk 8 hHeld ?_
          refine tk 9 hHeld ?_
          refine tk 10 hHeld ?_
          refine sk 11 hHeld ?_
          refine sk 12 hHeld ?_
          refine sk 13 hHeld ?_
          refine sk 14 hHeld ?_
          refine sk 15 hHeld ?_
          refine sk 16 hHeld ?_
          refine sk 17 hHeld ?_
          refine sk 18 hHeld ?_
          refine sk 19 hHeld ?_
          refine sk 20 hHeld ?_
          refine sk 21 hHeld ?_
          refine sk 22 hHeld ?_
          refine sk 23 hHeld ?_
          refine tk 24 hHeld ?_
          refine tk 25 hHeld ?_
          refine yD ?_
          have hkn := HK.out.1
          go_wp2
          go_roundw
          case rel => exact ⟨k + 1, by omega, by go_num, some k, rfl, ⟨HN.out, HFW.out.then F.out⟩⟩
          case measure => simp [RowKit.intOf]; omega
        | some j =>
          have hb2 := bk_some hbs.symm
          have hjl : j < l.length := by omega
          have d0 := (hcl j hjl).c0
          have hin : inB d l[j].d = true := by rw [← inx_at hjl]; exact hb2.2
          have hlen := hch j hb2.1 rfl hin
          obtain ⟨yd, hyd⟩ : ∃ yd, yd = l[j].d := ⟨_, rfl⟩
          rw [← hyd] at d0 hlen
          unfold strV at d0
          have q7 : ((j : Int) < 0) = False := eq_false (by omega)
          have q8 : ((yd.length : Int) < (xd.length : Int)) = True := eq_true (by omega)
          have q9 : (yd.length < xd.length) = True := eq_true hlen
          have q10 : ((j : Int) < (n : Int)) = True := eq_true (by omega)
          have q11 : (j < n) = True := eq_true (by omega)
          clear hcl hcell hch hbs hyd hin hb2 hjl hlen hkl hlt hk
          simp only [idx]
          go_wp2_with fail
          refine wp_region_held_drew (S := (fun w' => w'.cell? ⟨g, o + k * 3, none⟩ = some (.string (B xd)) ∧ w'.cell? ⟨g, o + j * 3, none⟩ = some (.string (B yd)))) (by kernel_rfl) ?_ (fun hHeld => ?_)
          · exact ⟨c0, d0⟩
          try simp only [zP, zN, zS, zT, zU]
          refine tk 0 hHeld ?_
          refine tk 1 hHeld ?_
          refine tk 2 hHeld ?_
          refine tk 3 hHeld ?_
          refine tk 4 hHeld ?_
          refine tk 5 hHeld ?_
          refine rY 6 (fun K hK => ?_)
          go_simp
          go_at_call 30
          refine (HIL.out _).mono ?_
          rintro e w7 ⟨rfl, hg⟩
          have f1 := hg.fp
          have HS1 := Lib.hid (And.intro (f1.cell hHeld.1 (fun h => h)) (f1.cell hHeld.2 (fun h => h)))
          have F := Lib.hid ((HFR.out.drew).then f1)
          clear f1 hg
          go_wp2_with fail
          refine hK.out _ _ HS1.out (fun hHeld => ?_)
          clear hK K
          try simp only [zP, zN, zS, zT, zU]
          refine tk 7 hHeld ?_
          refine tk 8 hHeld ?_
          refine tk 9 hHeld ?_
          refine tk 10 hHeld ?_
          refine tk 11 hHeld ?_
          refine tk 12 hHeld ?_
          refine tk 13 hHeld ?_
          refine tk 14 hHeld ?_
          refine tk 15 hHeld ?_
          refine tk 16 hHeld ?_
          refine tk 17 hHeld ?_
          refine tk 18 hHeld ?_
          refine tk 19 hHeld ?_
          refine tk 20 hHeld ?_
          refine tk 21 hHeld ?_
          refine tk 22 hHeld ?_
          refine tk 23 hHeld ?_
          refine tk 24 hHeld ?_
          refine tk 25 hHeld ?_
          refine yD ?_
          have hkn := HK.out.1
          go_wp2
          go_roundw
          case rel => exact ⟨k + 1, by omega, by go_num, some k, rfl, ⟨HN.out, HFW.out.then F.out⟩⟩
          case measure => simp [RowKit.intOf]; omega
    · have hke : k = n := by omega
      subst hke
      have q5 : ((k : Int) < (k : Int)) = False := eq_false (by omega)
      have HE := Lib.hid (show b = z by rw [hR.out.1, HRT.out.2])
      have HFZ := Lib.hid (F1.out.then hR.out.2)
      clear hlt hk hR
      go_wp2
      go_ret
      exact ⟨by rw [HE.out]; rfl, HFZ.out⟩

set_option maxHeartbeats 1000000 in
theorem rState_c (v : Value) (l : List Hl) (d : Bs) (w : World) (hv : NsH w v l) (hs : Szs l) (hd : d.length ≤ 1000000) :
    Calls Try.prog 22 #[v, .string (B d)] w fun e w' => e = .returned (.int .i64 (stR l d)) ∧ Fp Non w w' := by
  have h1 := rOf_c v l d w hv hs hd
  have hsn := hs.n
  cases ho : ofR l d with
  | none =>
    have e : stR l d = 3 := by unfold stR; rw [pick_none ho]
    rw [e]
    obtain ⟨ao, cap, rfl⟩ := hv.shape
    rw [ho] at h1
    generalize l.length = n at *
    have H1 := Lib.hid h1
    clear h1 hv hs hd e ho hsn
    go_enter Try.func22, Try.ntmps22
    go_wp2_with fail
    refine H1.out.mono ?_
    rintro e w1 ⟨rfl, hf⟩
    have HF := Lib.hid hf
    clear hf
    unfold idx
    go_wp2
    go_ret
    exact ⟨rfl, HF.out⟩
  | some k =>
    have hk := ofR_lt ho
    have e : stR l d = l[k].a := by unfold stR; rw [pick_at ho]
    rw [e]
    obtain ⟨g, o, cap, rfl, _, _, _, hcell⟩ := hv.at (by omega)
    have hc := (hcell k hk).c2
    rw [ho] at h1
    obtain ⟨n, hn⟩ : ∃ n, n = l.length := ⟨_, rfl⟩
    rw [← hn] at h1 hk hsn ⊢
    generalize l[k].a = a at *
    have q1 : ((k : Int) < 0) = False := eq_false (by omega)
    have q2 : ((k : Int) < (n : Int)) = True := eq_true (by omega)
    have q3 : (k < n) = True := eq_true hk
    have q4 : ((k : Int) = -1) = False := eq_false (by omega)
    have H1 := Lib.hid h1
    have HC := Lib.hid hc
    clear h1 hv hs hd e ho hcell hn hk hc
    go_enter Try.func22, Try.ntmps22
    go_wp2_with fail
    refine H1.out.mono ?_
    rintro e w1 ⟨rfl, hf⟩
    have HF := Lib.hid hf
    have c2 := hf.cell HC.out (fun h => h)
    clear hf
    unfold idx
    go_wp2
    go_ret
    exact ⟨rfl, HF.out⟩


/-- The document's Find. -/
def fnd : List Hl → Bs → Option Nat
  | [], _ => none
  | y :: r, p => if y.d = p then some 0 else (fnd r p).map (· + 1)
theorem fnd_none {l : List Hl} {p : Bs} (h : ∀ j (hj : j < l.length), l[j].d ≠ p) : fnd l p = none := by
  induction l with
  | nil => rfl
  | cons y r ih =>
    unfold fnd
    rw [if_neg (show y.d ≠ p from h 0 (by simp)), ih (fun j hj => by have := h (j + 1) (by simpa using hj); simpa using this)]; rfl
theorem fnd_at {l : List Hl} {p : Bs} {i : Nat} (hi : i < l.length) (h : l[i].d = p) (h2 : ∀ j (hj : j < l.length), j < i → l[j].d ≠ p) : fnd l p = some i := by
  induction l generalizing i with
  | nil => simp at hi
  | cons y r ih =>
    unfold fnd
    cases i with
    | zero => rw [if_pos (by simpa using h)]
    | succ i =>
      rw [if_neg (show y.d ≠ p from h2 0 (by simp) (by omega)), ih (i := i) (by simpa using hi) (by simpa using h) (fun j hj hji => by have := h2 (j + 1) (by simpa using hj) (by omega); simpa using this)]; rfl
theorem fnd_get : ∀ (l : List Hl) (p : Bs), match fnd l p with | none => getH l p = none | some i => ∃ h : i < l.length, getH l p = some l[i]
  | [], p => rfl
  | y :: r, p => by
    have ih := fnd_get r p
    unfold fnd getH
    by_cases e : y.d = p
    · rw [if_pos e, if_pos e]; exact ⟨by simp, rfl⟩
    · rw [if_neg e, if_neg e]
      cases h : fnd r p with
      | none => rw [h] at ih; exact ih
      | some i =>
        rw [h] at ih
        obtain ⟨hi, he⟩ := ih
        exact ⟨by simpa using hi, by simpa using he⟩

set_option maxHeartbeats 2000000 in
theorem rFind_c (v : Value) (l : List Hl) (p : Bs) (w : World) (hv : NsH w v l) (hn : l.length ≤ 1000000) :
    Calls Try.prog 33 #[v, .string (B p)] w fun e w' => e = .returned (.int .i64 (idx (fnd l p))) ∧ Fp Non w w' := by
  obtain ⟨ao, cap, rfl⟩ := hv.shape
  obtain ⟨n, hnn⟩ : ∃ n, n = l.length := ⟨_, rfl⟩
  have hnb : n ≤ 1000000 := by omega
  have HX := Lib.hid (And.intro hnn hv)
  obtain ⟨z, hz⟩ : ∃ z, fnd l p = z := ⟨_, rfl⟩
  rw [← hnn, hz]
  have HZ := Lib.hid hz
  clear hv hn hnn hz
  go_enter Try.func33, Try.ntmps33
  go_wp2_with fail
  go_loopw [5] (fun i wr => ∃ k : Nat, k ≤ n ∧ i = .int .i64 k ∧ Hid ((∀ j (hj : j < l.length), j < k → l[j].d ≠ p) ∧ Fp Non w wr)) (fun i _ => n - (RowKit.intOf i).toNat)
  case atStart => exact ⟨0, Nat.zero_le _, rfl, ⟨fun j _ h => absurd h (Nat.not_lt_zero j), Fp.refl _ _⟩⟩
  case round =>
    obtain ⟨k, hk, rfl, hR⟩ := hrel
    rename_i wr _
    by_cases hlt : k < n
    · have hkl : k < l.length := by rw [← HX.out.1]; exact hlt
      obtain ⟨g, o, cap', e, _, _, _, hcell⟩ := HX.out.2.at (by omega)
      rw [← HX.out.1] at e
      injection e with e1 e2 e3
      subst e1 e3
      have c0 := ((hcell k hkl).keep hR.out.2 (fun h => h)).c0
      have hyes : l[k].d = p → z = some k := fun h => by rw [← HZ.out]; exact fnd_at hkl h hR.out.1
      have hno : l[k].d ≠ p → ∀ j (hj : j < l.length), j < k + 1 → l[j].d ≠ p := fun h j hj hjk => by
        rcases Nat.lt_or_eq_of_le (show j ≤ k by omega) with e | e
        · exact hR.out.1 j hj e
        · subst e; exact h
      have q5 : ((k : Int) < (n : Int)) = True := eq_true (by omega)
      have q6 : (k < n) = True := eq_true hlt
      have HL := Lib.hid hlt
      have HFW := Lib.hid hR.out.2
      obtain ⟨xd, hxd⟩ : ∃ xd, xd = l[k].d := ⟨_, rfl⟩
      rw [← hxd] at c0 hyes hno
      unfold strV at c0
      have HY := Lib.hid hyes
      have HNo := Lib.hid hno
      clear hyes hno hxd hcell hkl hlt hR
      by_cases hxp : xd = p
      · have q7 : (xd == p) = true := beq_iff_eq.2 hxp
        have HE := Lib.hid (HY.out hxp)
        clear hxp
        go_wp2_with fail
        try go_quiet (fail)
        go_wp2
        go_ret
        exact ⟨by rw [HE.out]; rfl, by first | exact HFW.out | exact HFW.out.drewN _ | exact HFW.out.drew⟩
      · have q7 : (xd == p) = false := beq_eq_false_iff_ne.2 hxp
        have HM := Lib.hid (HNo.out hxp)
        have hkn := HL.out
        clear hxp
        go_wp2_with fail
        try go_quiet (fail)
        go_wp2
        go_roundw
        case rel => exact ⟨k + 1, by omega, by go_num, HM.out, by first | exact HFW.out | exact HFW.out.drewN _ | exact HFW.out.drew⟩
        case measure => simp [RowKit.intOf]; omega
    · have hke : k = n := by omega
      subst hke
      have q5 : ((k : Int) < (k : Int)) = False := eq_false (by omega)
      have HE := Lib.hid (show z = none by rw [← HZ.out]; exact fnd_none (fun j hj => hR.out.1 j hj (by rw [HX.out.1]; exact hj)))
      have HFW := Lib.hid hR.out.2
      clear hlt hk hR
      go_wp2
      go_ret
      exact ⟨by rw [HE.out]; rfl, HFW.out⟩
end Go.Proofs.Ytcjpgenlhphapaa
