/- The document's Of, Find, Same of mounts (gen_by.py) -/
import Derived.Test.YtajgjhkienhpjaaBx
import Derived.Test.YtajgjhkienhpjaaRd
namespace Go.Proofs.Ytajgjhkienhpjaa
set_option maxRecDepth 20000
set_option linter.unusedVariables false
set_option linter.unusedSimpArgs false
open Go.RowKit Pm

theorem fM : (Try.prog.fieldsOf TM).toList = [⟨ "Prefix", 9, 0, false, "", "", 0⟩, ⟨ "Group", 3, 1, false, "", "", 16⟩, ⟨ "Epoch", 2, 2, false, "", "", 24⟩, ⟨ "To", 3, 3, false, "", "", 32⟩] := by kernel_rfl
theorem eq_mt (w : World) (p p' : ByteArray) (g g' v v' t t' : Int) : (Op.equalIn 10000 TM (.agg #[.string p, .int .i64 g, .int .i64 v, .int .i64 t]) (.agg #[.string p', .int .i64 g', .int .i64 v', .int .i64 t'])).run Try.prog w =
    .ok (decide (p.toList = p'.toList ∧ g = g' ∧ v = v' ∧ t = t')) w := by
  rw [run_equalIn_agg w 9999 TM _ _ (by kernel_rfl) (by kernel_rfl), fM]
  have e2 := fun w a b => run_equalIn_int (P := Try.prog) w 9998 2 .i64 .i64 a b Try.underlying2
  have e4 := fun w a b => run_equalIn_int (P := Try.prog) w 9998 3 .i64 .i64 a b Try.underlying3
  have e3 := fun w a b => run_equalIn_string (P := Try.prog) w 9998 9 a b Try.underlying9
  simp only [Op.eqFields]
  simp [e2, e3, e4, go_sem]
  by_cases h2 : p.toList = p'.toList <;> by_cases h3 : g = g' <;> by_cases h4 : v = v' <;> by_cases h5 : t = t' <;> simp [h2, h3, h4, h5]
theorem B_list (l : Bs) : (B l).toList = l := by
  unfold B; simp [ByteArray.toList_eq]
theorem eq_mts (w : World) (x y : Mt) : (Op.equalIn 10000 TM (.agg #[.string (B x.d), .int .i64 x.g, .int .i64 x.e, .int .i64 x.t]) (.agg #[.string (B y.d), .int .i64 y.g, .int .i64 y.e, .int .i64 y.t])).run Try.prog w = .ok (decide (x = y)) w := by
  rw [eq_mt]
  congr 1
  simp only [B_list]
  obtain ⟨_, _, _, _⟩ := x
  obtain ⟨_, _, _, _⟩ := y
  simp

/-- Ahead of round k of Same. -/
structure SaM (a b : List Mt) (w : World) (k : Nat) (wr : World) : Prop where
  fp : Fp Non w wr
  eq : a.take k = b.take k
theorem take_succ_eq {a b : List Mt} {k : Nat} (ha : k < a.length) (hb : k < b.length) (h : a.take k = b.take k) (e : a[k] = b[k]) : a.take (k + 1) = b.take (k + 1) := by
  rw [List.take_succ_eq_append_getElem ha, List.take_succ_eq_append_getElem hb, h, e]

set_option maxHeartbeats 2000000 in
theorem rSameM_c (va vb : Value) (a b : List Mt) (w : World) (hva : NsM w va a) (hvb : NsM w vb b) (hn : a.length ≤ 1000000) (hm : b.length ≤ 1000000) :
    Calls Try.prog 16 #[va, vb] w fun e w' => e = .returned (.bool (decide (a = b))) ∧ Fp Non w w' := by
  obtain ⟨ao, ca, rfl⟩ := hva.shape
  obtain ⟨bo, cb, rfl⟩ := hvb.shape
  by_cases hl : a.length = b.length
  · obtain ⟨n, hnn⟩ : ∃ n, n = a.length := ⟨_, rfl⟩
    have hnb : n ≤ 1000000 := by omega
    have HX := Lib.hid (And.intro hnn (And.intro (show n = b.length by omega) (And.intro hva hvb)))
    rw [← hl, ← hnn]
    have H0 : Hid (SaM a b w 0 w) := ⟨Fp.refl _ _, by simp⟩
    have heq := eq_mts
    clear hva hvb hl hn hm hnn
    go_enter Try.func16, Try.ntmps16
    go_wp2_with fail
    go_loopw [5] (fun i wr => ∃ k : Nat, k ≤ n ∧ i = .int .i64 k ∧ Hid (SaM a b w k wr)) (fun i _ => n - (RowKit.intOf i).toNat)
    case atStart => exact ⟨0, Nat.zero_le _, rfl, H0⟩
    case round =>
      clear H0
      obtain ⟨k, hk, rfl, hR⟩ := hrel
      rename_i wr _
      by_cases hlt : k < n
      · have hka : k < a.length := by rw [← HX.out.1]; exact hlt
        have hkb : k < b.length := by rw [← HX.out.2.1]; exact hlt
        obtain ⟨g, o, cap', e, _, _, _, hcell⟩ := HX.out.2.2.1.at (by omega)
        injection e with e1 e2 e3
        subst e1 e3
        obtain ⟨g', o', cap', e, _, _, _, hcell'⟩ := HX.out.2.2.2.at (by omega)
        injection e with e1 e2 e3
        subst e1 e3
        have hnd := (hcell k hka).keep hR.out.fp (fun h => h)
        have hnd' := (hcell' k hkb).keep hR.out.fp (fun h => h)
        have q3 : ((k : Int) < (n : Int)) = True := eq_true (by omega)
        have q4 : (k < n) = True := eq_true hlt
        have hnx := fun e wr' (f : Fp Non wr wr') => (show SaM a b w (k + 1) wr' from ⟨hR.out.fp.then f, take_succ_eq hka hkb hR.out.eq e⟩)
        have hno := fun (e : a[k] ≠ b[k]) => (show a ≠ b from fun h => e (by subst h; rfl))
        have HNX := Lib.hid hnx
        have HNO := Lib.hid hno
        have HL := Lib.hid hlt
        clear hcell hcell' hnx hno hlt
        generalize a[k] = x at *
        generalize b[k] = y at *
        have c0 := hnd.c0; have c1 := hnd.c1; have c2 := hnd.c2; have c3 := hnd.c3
        have d0 := hnd'.c0; have d1 := hnd'.c1; have d2 := hnd'.c2; have d3 := hnd'.c3
        unfold strV at c0 d0
        clear hnd hnd' hka hkb
        by_cases hxy : x = y
        · have q5 : decide (x = y) = true := decide_eq_true hxy
          have q6 : (x = y) = True := eq_true hxy
          have hM := Lib.hid (HNX.out hxy)
          have hj := HL.out
          clear hxy
          go_wp2_with fail
          go_quiet (fail)
          go_wp2
          go_roundw
          case rel => exact ⟨k + 1, by omega, by go_num, hM.out _ ((Fp.refl _ _).drewN _)⟩
          case measure => simp [RowKit.intOf]; omega
        · have q5 : decide (x = y) = false := decide_eq_false hxy
          have q6 : (x = y) = False := eq_false hxy
          have HN := Lib.hid (HNO.out hxy)
          clear hxy
          go_wp2_with fail
          go_quiet (fail)
          go_wp2
          go_ret
          exact ⟨by rw [decide_eq_false HN.out]; rfl, hR.out.fp.drewN _⟩
      · have hke : k = n := by omega
        subst hke
        have q3 : ((k : Int) < (k : Int)) = False := eq_false (by omega)
        have hfin : a = b := by
          have := hR.out.eq
          rw [HX.out.1, List.take_length, ← HX.out.1, HX.out.2.1, List.take_length] at this; exact this
        have HFN := Lib.hid hfin
        clear hlt hk hfin
        go_wp2
        go_ret
        exact ⟨by rw [decide_eq_true HFN.out]; rfl, hR.out.fp⟩
  · have HN := Lib.hid (show a ≠ b from fun h => hl (by rw [h]))
    have q1 : ((a.length : Int) == (b.length : Int)) = false := beq_eq_false_iff_ne.2 (by omega)
    have q2 : ((a.length : Int) = (b.length : Int)) = False := eq_false (by omega)
    have q3 : (a.length == b.length) = false := beq_eq_false_iff_ne.2 hl
    have q4 : (a.length = b.length) = False := eq_false hl
    clear hl hva hvb hn hm
    go_enter Try.func16, Try.ntmps16
    go_wp2
    go_ret
    exact ⟨by rw [decide_eq_false HN.out]; rfl, Fp.refl _ _⟩



set_option maxHeartbeats 8000000 in
theorem rOf_c (v : Value) (l : List Mt) (d : Bs) (w : World) (hv : NsM w v l) (hs : SzM l) (hd : d.length ≤ 1000000) :
    Calls Try.prog 14 #[v, .string (B d)] w fun e w' => e = .returned (.int .i64 (idx (ofR l d))) ∧ Fp Non w w' := by
  have h1 := rRightM_c v l w hv hs.p (by have := hs.n; omega)
  obtain ⟨ao, cap, rfl⟩ := hv.shape
  obtain ⟨n, hnn⟩ : ∃ n, n = l.length := ⟨_, rfl⟩
  have hnb : n ≤ 1000000 := by have := hs.n; omega
  have HX := Lib.hid (And.intro hnn (And.intro hv hs))
  obtain ⟨z, hz⟩ : ∃ z, ofR l d = z := ⟨_, rfl⟩
  rw [← hnn] at h1 ⊢
  rw [hz]
  have HZ := Lib.hid hz
  have HDB := Lib.hid hd
  have H1 := Lib.hid h1
  clear h1 hv hs hnn hz hd
  go_enter Try.func14, Try.ntmps14
  go_wp2_with fail
  refine H1.out.mono ?_
  rintro e w1 ⟨rfl, hf⟩
  have F1 := Lib.hid hf
  clear hf
  cases hrt : rightM l with
  | false =>
    have hz0 : z = none := by rw [← HZ.out]; unfold ofR; rw [hrt]; rfl
    subst hz0
    clear hrt
    go_wp2
    go_ret
    exact ⟨rfl, F1.out⟩
  | true =>
  have hz1 : z = bk l d n := by rw [← HZ.out, HX.out.1]; unfold ofR; rw [hrt]; rfl
  have HRT := Lib.hid (And.intro ((right_iff l).1 hrt) hz1)
  clear hrt hz1
  go_wp2_with fail
  go_loopw [5, 6] (fun bv i wr => ∃ k : Nat, k ≤ n ∧ i = .int .i64 k ∧ ∃ b : Option Nat, bv = .int .i64 (idx b) ∧ Hid (b = bk l d k ∧ Fp Non w1 wr)) (fun _ i _ => n - (RowKit.intOf i).toNat)
  case atStart => exact ⟨0, Nat.zero_le _, rfl, none, rfl, ⟨rfl, Fp.refl _ _⟩⟩
  case round =>
    obtain ⟨k, hk, rfl, b, rfl, hR⟩ := hrel
    rename_i wr _
    by_cases hlt : k < n
    · have hkl : k < l.length := by rw [← HX.out.1]; exact hlt
      obtain ⟨g, o, cap', e, _, _, _, hcell⟩ := HX.out.2.1.at (by omega)
      rw [← HX.out.1] at e
      injection e with e1 e2 e3
      subst e1 e3
      have HFR := Lib.hid (Fp.refl Non wr)
      have HFW := Lib.hid hR.out.2
      have hcl := fun i h => (hcell i h).keep (F1.out.then hR.out.2) (fun h => h)
      have c0 := (hcl k hkl).c0
      have hbs := hR.out.1
      have hbk : bk l d (k + 1) = if inB d l[k].d = true then some k else bk l d k := by rw [← inx_at hkl]; rfl
      have hil := fun W => rIn_g d l[k].d W (sz_of HDB.out (by omega)) (sz_of (HX.out.2.2.p _ (List.getElem_mem hkl)) (by omega))
      have hch : ∀ j (hj : j < k), inB d l[k].d = true → inB d (l[j]'(by omega)).d = true → (l[j]'(by omega)).d.length < l[k].d.length := fun j hj h1 h2 => chain_lt h2 h1 (HRT.out.1.up.at (by omega) hkl hj)
      have q5 : ((k : Int) < (n : Int)) = True := eq_true (by omega)
      have q6 : (k < n) = True := eq_true hlt
      obtain ⟨xd, hxd⟩ : ∃ xd, xd = l[k].d := ⟨_, rfl⟩
      rw [← hxd] at c0 hbk hil hch
      unfold strV at c0
      obtain ⟨bb, hbb⟩ : ∃ bb, inB d xd = bb := ⟨_, rfl⟩
      rw [hbb] at hil hbk hch
      have HK := Lib.hid (And.intro hlt (And.intro hbs hbk))
      have HIL := Lib.hid hil
      clear hxd hil hbk hbb hR
      cases bb with
      | false =>
        have HN := Lib.hid (show b = bk l d (k + 1) by rw [HK.out.2.2, HK.out.2.1]; rfl)
        clear hcl hcell hch hbs hkl hlt hk
        go_wp2_with fail
        refine wp_region_held_drew (S := (fun w' => w'.cell? ⟨g, o + k * 4, none⟩ = some (.string (B xd)))) (by kernel_rfl) ?_ (fun hHeld => ?_)
        · exact c0
        try simp only [zP, zN, zS, zT, zU]
        refine tk 0 hHeld ?_
        refine tk 1 hHeld ?_
        refine tk 2 hHeld ?_
        refine tk 3 hHeld ?_
        refine tk 4 hHeld ?_
        refine tk 5 hHeld ?_
        refine rY 6 (fun K hK => ?_)
        go_simp
        go_at_call 18
        refine (HIL.out _).mono ?_
        rintro e w7 ⟨rfl, hg⟩
        have f1 := hg.fp
        have HS1 := Lib.hid (f1.cell hHeld (fun h => h))
        have F := Lib.hid ((HFR.out.drew).then f1)
        clear f1 hg
        go_wp2_with fail
        refine hK.out _ _ HS1.out (fun hHeld => ?_)
        clear hK K
        try simp only [zP, zN, zS, zT, zU]
        refine tk 7 hHeld ?_
        refine sk 8 hHeld ?_
        refine sk 9 hHeld ?_
        refine sk 10 hHeld ?_
        refine sk 11 hHeld ?_
        refine sk 12 hHeld ?_
        refine sk 13 hHeld ?_
        refine sk 14 hHeld ?_
        refine sk 15 hHeld ?_
        refine sk 16 hHeld ?_
        refine sk 17 hHeld ?_
        refine sk 18 hHeld ?_
        refine sk 19 hHeld ?_
        refine sk 20 hHeld ?_
        refine sk 21 hHeld ?_
        refine sk 22 hHeld ?_
        refine sk 23 hHeld ?_
        refine sk 24 hHeld ?_
        refine tk 25 hHeld ?_
        refine yD ?_
        have hkn := HK.out.1
        go_wp2
        go_roundw
        case rel => exact ⟨k + 1, by omega, by go_num, b, rfl, ⟨HN.out, HFW.out.then F.out⟩⟩
        case measure => simp [RowKit.intOf]; omega
      | true =>
        have HN := Lib.hid (show some k = bk l d (k + 1) by rw [HK.out.2.2]; rfl)
        cases b with
        | none =>
          clear hcl hcell hch hbs hkl hlt hk
          simp only [idx]
          go_wp2_with fail
          refine wp_region_held_drew (S := (fun w' => w'.cell? ⟨g, o + k * 4, none⟩ = some (.string (B xd)))) (by kernel_rfl) ?_ (fun hHeld => ?_)
          · exact c0
          try simp only [zP, zN, zS, zT, zU]
          refine tk 0 hHeld ?_
          refine tk 1 hHeld ?_
          refine tk 2 hHeld ?_
          refine tk 3 hHeld ?_
          refine tk 4 hHeld ?_
          refine tk 5 hHeld ?_
          refine rY 6 (fun K hK => ?_)
          go_simp
          go_at_call 18
          refine (HIL.out _).mono ?_
          rintro e w7 ⟨rfl, hg⟩
          have f1 := hg.fp
          have HS1 := Lib.hid (f1.cell hHeld (fun h => h))
          have F := Lib.hid ((HFR.out.drew).then f1)
          clear f1 hg
          go_wp2_with fail
          refine hK.out _ _ HS1.out (fun hHeld => ?_)
          clear hK K
          try simp only [zP, zN, zS, zT, zU]
          refine tk 7 hHeld ?_
          refine tk 8 hHeld ?_
          refine tk 9 hHeld ?_
          refine tk 10 hHeld ?_
          refine sk 11 hHeld ?_
          refine sk 12 hHeld ?_
          refine sk 13 hHeld ?_
          refine sk 14 hHeld ?_
          refine sk 15 hHeld ?_
          refine sk 16 hHeld ?_
          refine sk 17 hHeld ?_
          refine sk 18 hHeld ?_
          refine sk 19 hHeld ?_
          refine sk 20 hHeld ?_
          refine sk 21 hHeld ?_
          refine sk 22 hHeld ?_
          refine sk 23 hHeld ?_
          refine tk 24 hHeld ?_
          refine tk 25 hHeld ?_
          refine yD ?_
          have hkn := HK.out.1
          go_wp2
          go_roundw
          case rel => exact ⟨k + 1, by omega, by go_num, some k, rfl, ⟨HN.out, HFW.out.then F.out⟩⟩
          case measure => simp [RowKit.intOf]; omega
        | some j =>
          have hb2 := bk_some hbs.symm
          have hjl : j < l.length := by omega
          have d0 := (hcl j hjl).c0
          have hin : inB d l[j].d = true := by rw [← inx_at hjl]; exact hb2.2
          have hlen := hch j hb2.1 rfl hin
          obtain ⟨yd, hyd⟩ : ∃ yd, yd = l[j].d := ⟨_, rfl⟩
          rw [← hyd] at d0 hlen
          unfold strV at d0
          have q7 : ((j : Int) < 0) = False := eq_false (by omega)
          have q8 : ((yd.length : Int) < (xd.length : Int)) = True := eq_true (by omega)
          have q9 : (yd.length < xd.length) = True := eq_true hlen
          have q10 : ((j : Int) < (n : Int)) = True := eq_true (by omega)
          have q11 : (j < n) = True := eq_true (by omega)
          clear hcl hcell hch hbs hyd hin hb2 hjl hlen hkl hlt hk
          simp only [idx]
          go_wp2_with fail
          refine wp_region_held_drew (S := (fun w' => w'.cell? ⟨g, o + k * 4, none⟩ = some (.string (B xd)) ∧ w'.cell? ⟨g, o + j * 4, none⟩ = some (.string (B yd)))) (by kernel_rfl) ?_ (fun hHeld => ?_)
          · exact ⟨c0, d0⟩
          try simp only [zP, zN, zS, zT, zU]
          refine tk 0 hHeld ?_
          refine tk 1 hHeld ?_
          refine tk 2 hHeld ?_
          refine tk 3 hHeld ?_
          refine tk 4 hHeld ?_
          refine tk 5 hHeld ?_
          refine rY 6 (fun K hK => ?_)
          go_simp
          go_at_call 18
          refine (HIL.out _).mono ?_
          rintro e w7 ⟨rfl, hg⟩
          have f1 := hg.fp
          have HS1 := Lib.hid (And.intro (f1.cell hHeld.1 (fun h => h)) (f1.cell hHeld.2 (fun h => h)))
          have F := Lib.hid ((HFR.out.drew).then f1)
          clear f1 hg
          go_wp2_with fail
          refine hK.out _ _ HS1.out (fun hHeld => ?_)
          clear hK K
          try simp only [zP, zN, zS, zT, zU]
          refine tk 7 hHeld ?_
          refine tk 8 hHeld ?_
          refine tk 9 hHeld ?_
          refine tk 10 hHeld ?_
          refine tk 11 hHeld ?_
          refine tk 12 hHeld ?_
          refine tk 13 hHeld ?_
          refine tk 14 hHeld ?_
          refine tk 15 hHeld ?_
          refine tk 16 hHeld ?_
          refine tk 17 hHeld ?_
          refine tk 18 hHeld ?_
          refine tk 19 hHeld ?_
          refine tk 20 hHeld ?_
          refine tk 21 hHeld ?_
          refine tk 22 hHeld ?_
          refine tk 23 hHeld ?_
          refine tk 24 hHeld ?_
          refine tk 25 hHeld ?_
          refine yD ?_
          have hkn := HK.out.1
          go_wp2
          go_roundw
          case rel => exact ⟨k + 1, by omega, by go_num, some k, rfl, ⟨HN.out, HFW.out.then F.out⟩⟩
          case measure => simp [RowKit.intOf]; omega
    · have hke : k = n := by omega
      subst hke
      have q5 : ((k : Int) < (k : Int)) = False := eq_false (by omega)
      have HE := Lib.hid (show b = z by rw [hR.out.1, HRT.out.2])
      have HFZ := Lib.hid (F1.out.then hR.out.2)
      clear hlt hk hR
      go_wp2
      go_ret
      exact ⟨by rw [HE.out]; rfl, HFZ.out⟩


set_option maxHeartbeats 2000000 in
theorem rFindM_c (v : Value) (l : List Mt) (p : Bs) (w : World) (hv : NsM w v l) (hn : l.length ≤ 1000000) :
    Calls Try.prog 17 #[v, .string (B p)] w fun e w' => e = .returned (.int .i64 (idx (exM l p))) ∧ Fp Non w w' := by
  obtain ⟨ao, cap, rfl⟩ := hv.shape
  obtain ⟨n, hnn⟩ : ∃ n, n = l.length := ⟨_, rfl⟩
  have hnb : n ≤ 1000000 := by omega
  have HX := Lib.hid (And.intro hnn hv)
  rw [← hnn]
  clear hv hnn hn
  go_enter Try.func17, Try.ntmps17
  go_wp2_with fail
  go_loopw [5] (fun i wr => ∃ k : Nat, k ≤ n ∧ i = .int .i64 k ∧ Hid (Fp Non w wr ∧ ∀ j (hj : j < l.length), j < k → decide (l[j].d = p) = false)) (fun i _ => n - (RowKit.intOf i).toNat)
  case atStart => exact ⟨0, Nat.zero_le _, rfl, Fp.refl _ _, fun j _ h => absurd h (Nat.not_lt_zero j)⟩
  case round =>
    obtain ⟨k, hk, rfl, hR⟩ := hrel
    rename_i wr _
    by_cases hlt : k < n
    · have hkl : k < l.length := by rw [← HX.out.1]; exact hlt
      obtain ⟨g, o, cap', e, _, _, _, hcell⟩ := HX.out.2.at (by omega)
      rw [← HX.out.1] at e
      injection e with e1 e2 e3
      subst e1 e3
      have c0 := ((hcell k hkl).keep hR.out.1 (fun h => h)).c0
      have hold := hR.out.2
      have hfnd : l[k].d = p → (k : Int) = idx (exM l p) := fun h => findM_eq (q := fun m => decide (m.d = p)) (.inr ⟨k, rfl, hkl, decide_eq_true h, hold⟩)
      have hnx : l[k].d ≠ p → ∀ j (hj : j < l.length), j < k + 1 → decide (l[j].d = p) = false := fun h j hj hjk => by
        rcases Nat.lt_or_eq_of_le (show j ≤ k by omega) with e | e
        · exact hold j hj e
        · subst e; exact decide_eq_false h
      have q5 : ((k : Int) < (n : Int)) = True := eq_true (by omega)
      have q6 : (k < n) = True := eq_true hlt
      obtain ⟨xd, hxd⟩ : ∃ xd, xd = l[k].d := ⟨_, rfl⟩
      rw [← hxd] at c0 hfnd hnx
      unfold strV at c0
      have HK := Lib.hid (And.intro hlt (And.intro hfnd hnx))
      have HF := Lib.hid hR.out.1
      clear hxd hfnd hnx hold hR hcell hkl hlt hk e2
      by_cases hd : xd = p
      · have q7 : (xd == p) = true := beq_iff_eq.2 hd
        have q8 : (xd = p) = True := eq_true hd
        have HE := Lib.hid (HK.out.2.1 hd)
        clear hd
        go_wp2
        go_ret
        exact ⟨ret_int HE.out, HF.out⟩
      · have q7 : (xd == p) = false := beq_eq_false_iff_ne.2 hd
        have q8 : (xd = p) = False := eq_false hd
        have HE := Lib.hid (HK.out.2.2 hd)
        have hkn := HK.out.1
        clear hd
        go_wp2
        go_roundw
        case rel => exact ⟨k + 1, by omega, by go_num, HF.out, HE.out⟩
        case measure => simp [RowKit.intOf]; omega
    · have hke : k = n := by omega
      subst hke
      have q3 : ((k : Int) < (k : Int)) = False := eq_false (by omega)
      have HE := Lib.hid (show (-1 : Int) = idx (exM l p) from findM_eq (q := fun m => decide (m.d = p)) (.inl ⟨rfl, fun x hx => by
        obtain ⟨i, hi, rfl⟩ := List.getElem_of_mem hx
        exact hR.out.2 i hi (by rw [HX.out.1]; exact hi)⟩))
      clear hlt hk
      go_wp2
      go_ret
      exact ⟨ret_int HE.out, hR.out.1⟩

end Go.Proofs.Ytajgjhkienhpjaa
