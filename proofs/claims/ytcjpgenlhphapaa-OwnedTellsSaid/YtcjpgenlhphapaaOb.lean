/- Where a range lies: Compare, BinarySearchFunc, place; fits (gen_ob.py) -/
import Derived.Test.YtcjpgenlhphapaaOi
namespace Go.Proofs.Ytcjpgenlhphapaa
set_option maxRecDepth 20000
set_option linter.unusedVariables false
set_option linter.unusedSimpArgs false
open Go.RowKit Pm

set_option maxHeartbeats 400000 in
theorem isNaN1_c (s : Bs) (w : World) : Calls Try.prog 68 #[.string (B s)] w fun e w' => e = .returned (.bool false) ∧ w' = w := by
  go_enter Try.func68, Try.ntmps68
  go_wp2
  go_ret
  exact ⟨by simp, rfl⟩
/-- cmp.Compare's number. -/
def cmpI (a b : Bs) : Int := if lt a b = true then -1 else if a = b then 0 else 1
set_option maxHeartbeats 1000000 in
theorem Compare_c (a b : Bs) (w : World) : Calls Try.prog 57 #[.string (B a), .string (B b)] w fun e w' => e = .returned (.int .i64 (cmpI a b)) ∧ w' = w := by
  cases h1 : lt a b with
  | true =>
    have e : cmpI a b = -1 := by unfold cmpI; rw [if_pos h1]
    rw [e]
    have q1 : Op.bytesLess a b = true := h1
    clear e h1
    go_enter Try.func57, Try.ntmps57
    go_wp2_with fail
    refine (isNaN1_c _ _).mono ?_
    rintro e w1 ⟨rfl, rfl⟩
    go_wp2_with fail
    refine (isNaN1_c _ _).mono ?_
    rintro e w1 ⟨rfl, rfl⟩
    go_wp2
    go_ret
    exact ⟨rfl, rfl⟩
  | false =>
    have q1 : Op.bytesLess a b = false := h1
    by_cases h2 : a = b
    · subst h2
      have e : cmpI a a = 0 := by unfold cmpI; rw [if_neg (by rw [h1]; exact Bool.false_ne_true), if_pos rfl]
      rw [e]
      have q2 : (a == a) = true := beq_self_eq_true a
      clear e h1
      go_enter Try.func57, Try.ntmps57
      go_wp2_with fail
      refine (isNaN1_c _ _).mono ?_
      rintro e w1 ⟨rfl, rfl⟩
      go_wp2_with fail
      refine (isNaN1_c _ _).mono ?_
      rintro e w1 ⟨rfl, rfl⟩
      go_wp2
      go_ret
      exact ⟨rfl, rfl⟩
    · have e : cmpI a b = 1 := by unfold cmpI; rw [if_neg (by rw [h1]; exact Bool.false_ne_true), if_neg h2]
      rw [e]
      have q2 : (a == b) = false := beq_eq_false_iff_ne.2 h2
      clear e h1 h2
      go_enter Try.func57, Try.ntmps57
      go_wp2_with fail
      refine (isNaN1_c _ _).mono ?_
      rintro e w1 ⟨rfl, rfl⟩
      go_wp2_with fail
      refine (isNaN1_c _ _).mono ?_
      rintro e w1 ⟨rfl, rfl⟩
      go_wp2
      go_ret
      exact ⟨rfl, rfl⟩
/-- Between i and j it lies. -/
structure BsM (K : List Bs) (p : Bs) (w : World) (i j : Nat) (wr : World) : Prop where
  fp : Fp Non w wr
  lo : ∀ x (h : x < K.length), x < i → lt K[x] p = true
  hi : ∀ x (h : x < K.length), j ≤ x → lt K[x] p = false
  ij : i ≤ j
  jn : j ≤ K.length
theorem Up.at {K : List Bs} (h : Up K) {i j : Nat} (hi : i < K.length) (hj : j < K.length) (hij : i < j) : lt K[i] K[j] = true := List.pairwise_iff_getElem.1 h i j hi hj hij
theorem BsM.below {K : List Bs} {p : Bs} {w wr w' : World} {i j h : Nat} (hM : BsM K p w i j wr) (hu : Up K) (hh : h < K.length) (h1 : i ≤ h) (h2 : h < j) (c : lt K[h] p = true) (f : Fp Non wr w') : BsM K p w (h + 1) j w' :=
  ⟨hM.fp.then f, fun x hx hxh => by
    rcases Nat.lt_or_eq_of_le (show x ≤ h by omega) with e | e
    · exact lt_trans (Up.at hu hx hh e) c
    · subst e; exact c, hM.hi, by omega, hM.jn⟩
theorem BsM.above {K : List Bs} {p : Bs} {w wr w' : World} {i j h : Nat} (hM : BsM K p w i j wr) (hu : Up K) (hh : h < K.length) (h1 : i ≤ h) (h2 : h < j) (c : lt K[h] p = false) (f : Fp Non wr w') : BsM K p w i h w' :=
  ⟨hM.fp.then f, hM.lo, fun x hx hxh => by
    rcases Nat.lt_or_eq_of_le hxh with e | e
    · cases d : lt K[x] p with
      | false => rfl
      | true => rw [lt_trans (Up.at hu hh hx e) d] at c; cases c
    · subst e; exact c, by omega, by have := hM.jn; omega⟩
set_option maxHeartbeats 1000000 in
theorem placeH1_c (n : Hl) (p : Bs) (w : World) :
    Calls Try.prog 56 #[hlV n, .string (B p)] w fun e w' => e = .returned (.int .i64 (cmpI n.d p)) ∧ Fp Non w w' := by
  obtain ⟨d, t, a⟩ := n
  unfold hlV strV
  have hf : ∀ o, Fp Non w (w.alloc o) := fun o => (Fp.refl Non w).alloc o
  have HF := Lib.hid hf
  clear hf
  go_enter Try.func56, Try.ntmps56
  go_wp2_with fail
  refine (Compare_c _ _ _).mono ?_
  rintro e w1 ⟨rfl, rfl⟩
  go_wp2
  go_ret
  exact ⟨rfl, HF.out _⟩

set_option maxHeartbeats 4000000 in
theorem SearchH_c (v : Value) (l : List Hl) (p : Bs) (w : World) (hv : NsH w v l) (ha0 : UpH l) (hn : l.length ≤ 1000000) :
    Calls Try.prog 55 #[v, .string (B p), .func (.func 56) #[] #[]] w fun e w' => e = .returned (.tuple #[.int .i64 (plH l p), .bool (getH l p).isSome]) ∧ Fp Non w w' := by
  have ha : Up (l.map Hl.d) := upH_map.1 ha0
  clear ha0
  obtain ⟨ao, cap, rfl⟩ := hv.shape
  obtain ⟨n, hnn⟩ : ∃ n, n = l.length := ⟨_, rfl⟩
  have hKl : (l.map Hl.d).length = n := by rw [hnn, List.length_map]
  have HX := Lib.hid (And.intro hnn (And.intro hv (And.intro ha hKl)))
  have H0 : Hid (BsM (l.map Hl.d) p w 0 n w) := ⟨Fp.refl _ _, fun x _ h => absurd h (Nat.not_lt_zero x), fun x h1 h2 => by omega, Nat.zero_le _, by omega⟩
  rw [← hnn]
  have hnb : n ≤ 1000000 := by omega
  clear hv ha hn hnn hKl
  go_enter Try.func55, Try.ntmps55
  go_wp2_with fail
  go_loopw [9, 10] (fun i j wr => ∃ a b : Nat, a ≤ n ∧ b ≤ n ∧ i = .int .i64 a ∧ j = .int .i64 b ∧ Hid (BsM (l.map Hl.d) p w a b wr)) (fun i j _ => (RowKit.intOf j).toNat - (RowKit.intOf i).toNat)
  case atStart => exact ⟨0, n, Nat.zero_le _, Nat.le_refl _, rfl, rfl, H0⟩
  case round =>
    clear H0
    obtain ⟨a, b, han, hbn, rfl, rfl, hR⟩ := hrel
    rename_i wr _
    by_cases hlt : a < b
    · obtain ⟨h, hh⟩ : ∃ h, h = (a + b) / 2 := ⟨_, rfl⟩
      have hab : a ≤ h ∧ h < b := by omega
      have he : ((a : Int) + (b : Int)) / 2 = (h : Int) := by omega
      have hhl : h < l.length := by rw [← HX.out.1]; omega
      have hhK : h < (l.map Hl.d).length := by rw [HX.out.2.2.2]; omega
      have q5 : (h < n) = True := eq_true (by omega)
      have q6 : ((h : Int) < (n : Int)) = True := eq_true (by omega)
      obtain ⟨g, o, cap', e, _, _, _, hcell⟩ := HX.out.2.1.at (by omega)
      injection e with e1 e2 e3
      subst e1 e3
      have hdn := fun c w' f => hR.out.below (w' := w') HX.out.2.2.1 hhK hab.1 hab.2 c f
      have hup := fun c w' f => hR.out.above (w' := w') HX.out.2.2.1 hhK hab.1 hab.2 c f
      have hnd := (hcell h hhl).keep hR.out.fp (fun h => h)
      simp only [List.getElem_map] at hdn hup
      obtain ⟨x, hx⟩ : ∃ x, x = l[h] := ⟨_, rfl⟩
      rw [← hx] at hdn hup hnd
      clear hx
      obtain ⟨y, xt, xa⟩ := x
      have c0 := hnd.c0; have c1 := hnd.c1; have c2 := hnd.c2
      unfold strV at c0
      simp only at c0 c1 c2 hdn hup
      clear hnd
      have HB := Lib.hid (And.intro hdn hup)
      have HA := Lib.hid (And.intro hab (And.intro han hbn))
      clear hcell hdn hup hh han hbn
      skip
      have q3 : ((a : Int) < (b : Int)) = True := eq_true (by omega)
      have q4 : (a < b) = True := eq_true hlt
      have hhb : h ≤ 1000000 := by have := HA.out; omega
      clear hhl hhK hlt hab
      cases hlo : lt y p with
      | true =>
        have z0 : (cmpI y p < 0) = True := eq_true (by unfold cmpI; rw [if_pos hlo]; decide)
        go_wp2_with fail
        refine (placeH1_c ⟨y, xt, xa⟩ _ _).mono ?_
        rintro e w2 ⟨rfl, hf2⟩
        simp only
        have hM := Lib.hid (HB.out.1 hlo _ hf2)
        clear hlo
        go_wp2
        go_roundw
        case rel => exact ⟨h + 1, b, by have := HA.out; omega, HA.out.2.2, by go_num, rfl, hM⟩
        case measure => have := HA.out; simp [RowKit.intOf]; omega
      | false =>
        have z0 : (cmpI y p < 0) = False := eq_false (by unfold cmpI; rw [if_neg (by rw [hlo]; exact Bool.false_ne_true)]; split <;> decide)
        go_wp2_with fail
        refine (placeH1_c ⟨y, xt, xa⟩ _ _).mono ?_
        rintro e w2 ⟨rfl, hf2⟩
        simp only
        have hM := Lib.hid (HB.out.2 hlo _ hf2)
        clear hlo
        go_wp2
        go_roundw
        case rel => exact ⟨a, h, HA.out.2.1, by have := HA.out; omega, rfl, rfl, hM⟩
        case measure => have := HA.out; simp [RowKit.intOf]; omega
    · have hab : a = b := by have := hR.out.ij; omega
      subst hab
      have hpl : plH l p = a := plH_of (by have := hR.out.jn; simpa using this) (fun i h hi => by have := hR.out.lo i (by simpa using h) hi; simpa using this) (fun i h hi => by have := hR.out.hi i (by simpa using h) hi; simpa using this)
      have hgp := getH_place (upH_map.2 HX.out.2.2.1) p
      have q3 : ((a : Int) < (a : Int)) = False := eq_false (by omega)
      by_cases hal : a < n
      · have hhl : a < l.length := by rw [← HX.out.1]; exact hal
        have hhK : a < (l.map Hl.d).length := by rw [HX.out.2.2.2]; exact hal
        obtain ⟨g, o, cap', e, _, _, _, hcell⟩ := HX.out.2.1.at (by omega)
        injection e with e1 e2 e3
        subst e1 e3
        have hfin : ∀ y, (l.map Hl.d)[a] = y → (getH l p).isSome = decide (y = p) := fun y hy => by
          rw [hgp, dif_pos (by rw [hpl]; exact hhl)]
          simp only [hpl]
          rw [List.getElem_map] at hy
          rw [hy]
          by_cases e : y = p <;> simp [e]
        have hnd := (hcell a hhl).keep hR.out.fp (fun h => h)
        obtain ⟨x, hx⟩ : ∃ x, x = l[a] := ⟨_, rfl⟩
        rw [← hx] at hnd
        have hda : (l.map Hl.d)[a] = x.d := by rw [List.getElem_map, ← hx]
        clear hx
        obtain ⟨y, xt, xa⟩ := x
        have c0 := hnd.c0; have c1 := hnd.c1; have c2 := hnd.c2
        unfold strV at c0
        simp only at c0 c1 c2 hda
        clear hnd
        have hfy := hfin _ hda
        have q5 : ((a : Int) < (n : Int)) = True := eq_true (by omega)
        have q6 : (a < n) = True := eq_true hal
        have hz0 := hR.out.hi a hhK (Nat.le_refl _)
        rw [hda] at hz0
        have hze : (cmpI y p == 0) = decide (y = p) := by
          unfold cmpI
          rw [if_neg (by rw [hz0]; exact Bool.false_ne_true)]
          by_cases e : y = p
          · rw [if_pos e, decide_eq_true e]; rfl
          · rw [if_neg e, decide_eq_false e]; rfl
        have HZ := Lib.hid (And.intro hfy (And.intro hze hpl))
        clear hpl hgp hfy hfin hal hcell han hbn hhl hhK hlt hz0 hze hda
        go_wp2_with fail
        refine (placeH1_c ⟨y, xt, xa⟩ _ _).mono ?_
        rintro e w2 ⟨rfl, hf2⟩
        have HF := Lib.hid (hR.out.fp.then hf2)
        clear hf2
        simp only
        go_wp2
        go_ret2
        exact ⟨by rw [HZ.out.1, ← HZ.out.2.1, HZ.out.2.2]; rfl, HF.out⟩
      · have q5 : ((a : Int) < (n : Int)) = False := eq_false (by omega)
        have q6 : (a < n) = False := eq_false hal
        have hno : (getH l p).isSome = false := by
          rw [hgp, dif_neg (by rw [hpl, ← HX.out.1]; exact hal)]; rfl
        have HFN := Lib.hid (And.intro hno hpl)
        clear hal hlt han hbn hno hpl hgp
        go_wp2
        go_ret2
        exact ⟨by rw [HFN.out.1, HFN.out.2]; rfl, hR.out.fp⟩

set_option maxHeartbeats 1000000 in
theorem place_c (v : Value) (l : List Hl) (p : Bs) (w : World) (hv : NsH w v l) (ha0 : UpH l) (hn : l.length ≤ 1000000) :
    Calls Try.prog 36 #[v, .string (B p)] w fun e w' => e = .returned (.tuple #[.int .i64 (plH l p), .bool (getH l p).isSome]) ∧ Fp Non w w' := by
  have hs := SearchH_c v l p w hv ha0 hn
  obtain ⟨ao, cap, rfl⟩ := hv.shape
  generalize (getH l p).isSome = b at *
  generalize plH l p = k at *
  generalize l.length = n at *
  have HS := Lib.hid hs
  clear hs hv hn ha0
  go_enter Try.func36, Try.ntmps36
  go_wp2_with fail
  refine HS.out.mono ?_
  rintro e w1 ⟨rfl, hf⟩
  have HF := Lib.hid hf
  clear hf
  go_wp2
  go_ret2
  exact ⟨rfl, HF.out⟩

set_option maxHeartbeats 1000000 in
theorem fits_c (x : Hl) (w : World) (hp : x.d.length ≤ 1000000) : Calls Try.prog 35 #[hlV x] w fun e w' => e = .returned (.bool (okH x)) ∧ Fp Non w w' := by
  obtain ⟨p, t, a⟩ := x
  have h3 := fun w => Right_g p w (sz_of hp (by omega))
  have e : okH ⟨p, t, a⟩ = ((split p).isSome && okE t && okA a) := rfl
  rw [e]
  have HF := Lib.hid (fp_alloc w (.cells #[.string (B p), .int .i64 t, .int .i64 a] TH))
  unfold hlV strV
  generalize (split p).isSome = b3 at *
  have H3 := Lib.hid h3
  clear h3 hp e
  simp only
  go_enter Try.func35, Try.ntmps35
  go_wp2_with fail
  refine (H3.out _).mono ?_
  rintro e w1 ⟨rfl, hg⟩
  have HG := Lib.hid (HF.out.then hg.fp)
  cases b3 with
  | false =>
    clear hg
    go_wp2
    go_ret
    exact ⟨rfl, HG.out⟩
  | true =>
    have hf2 := (Fp.refl Non _).then hg.fp
    have hc := heap_alloc_new w (.cells #[.string (B p), .int .i64 t, .int .i64 a] TH)
    have h0 := hg.fp.heap hc (fun h => h)
    have c1 : w1.cell? ⟨w.heap.size, 1, none⟩ = some (.int .i64 t) := by rw [cell_of_row _ _ _ _ _ _ h0]; rfl
    have c2 : w1.cell? ⟨w.heap.size, 2, none⟩ = some (.int .i64 a) := by rw [cell_of_row _ _ _ _ _ _ h0]; rfl
    clear hg hf2 hc h0
    go_wp2
    all_goals
      go_ret
      refine ⟨ret_bool ?_, HG.out⟩
      unfold okE okA mxN
      rw [Bool.eq_iff_iff]
      simp
      omega

end Go.Proofs.Ytcjpgenlhphapaa
