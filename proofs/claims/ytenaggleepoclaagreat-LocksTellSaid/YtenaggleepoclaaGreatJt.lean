/- slices.BinarySearch at texts; slices.BinarySearchFunc at holds, place (gen_jt.py) -/
import Derived.Test.YtenaggleepoclaaGreatJs
namespace Go.Proofs.YtenaggleepoclaaGreat
set_option maxRecDepth 20000
set_option linter.unusedVariables false
set_option linter.unusedSimpArgs false
open Go.RowKit Pm

/-- Between i and j it lies. -/
structure BsM (K : List Bs) (p : Bs) (w : World) (i j : Nat) (wr : World) : Prop where
  fp : Fp Non w wr
  lo : ∀ x (h : x < K.length), x < i → lt K[x] p = true
  hi : ∀ x (h : x < K.length), j ≤ x → lt K[x] p = false
  ij : i ≤ j
  jn : j ≤ K.length
theorem Up.at {K : List Bs} (h : Up K) {i j : Nat} (hi : i < K.length) (hj : j < K.length) (hij : i < j) : lt K[i] K[j] = true := List.pairwise_iff_getElem.1 h i j hi hj hij
theorem BsM.below {K : List Bs} {p : Bs} {w wr w' : World} {i j h : Nat} (hM : BsM K p w i j wr) (hu : Up K) (hh : h < K.length) (h1 : i ≤ h) (h2 : h < j) (c : lt K[h] p = true) (f : Fp Non wr w') : BsM K p w (h + 1) j w' :=
  ⟨hM.fp.then f, fun x hx hxh => by
    rcases Nat.lt_or_eq_of_le (show x ≤ h by omega) with e | e
    · exact lt_trans (Up.at hu hx hh e) c
    · subst e; exact c, hM.hi, by omega, hM.jn⟩
theorem BsM.above {K : List Bs} {p : Bs} {w wr w' : World} {i j h : Nat} (hM : BsM K p w i j wr) (hu : Up K) (hh : h < K.length) (h1 : i ≤ h) (h2 : h < j) (c : lt K[h] p = false) (f : Fp Non wr w') : BsM K p w i h w' :=
  ⟨hM.fp.then f, hM.lo, fun x hx hxh => by
    rcases Nat.lt_or_eq_of_le hxh with e | e
    · cases d : lt K[x] p with
      | false => rfl
      | true => rw [lt_trans (Up.at hu hh hx e) d] at c; cases c
    · subst e; exact c, by omega, by have := hM.jn; omega⟩
theorem BsM.mem {K : List Bs} {p : Bs} {w wr : World} {i : Nat} (hM : BsM K p w i i wr) (hu : Up K) : p ∈ K ↔ ∃ h : i < K.length, K[i] = p := by
  constructor
  · intro hp
    obtain ⟨x, hx, e⟩ := List.getElem_of_mem hp
    rcases Nat.lt_trichotomy x i with h | h | h
    · have := hM.lo x hx h; rw [e, lt_irrefl] at this; cases this
    · subst h; exact ⟨hx, e⟩
    · have h1 := Up.at hu (Nat.lt_trans h hx) hx h
      have h2 := hM.hi i (Nat.lt_trans h hx) (Nat.le_refl _)
      rw [e, h2] at h1; cases h1
  · rintro ⟨h, rfl⟩; exact List.getElem_mem h

set_option maxHeartbeats 4000000 in
theorem SearchS_c (v : Value) (l : List Bs) (p : Bs) (w : World) (hv : Tx w v l) (ha : Up l) (hn : l.length ≤ 1000000) :
    Calls Tryz.prog 51 #[v, .string (B p)] w fun e w' => (∃ z : Int, e = .returned (.tuple #[.int .i64 z, .bool (decide (p ∈ l))])) ∧ Fp Non w w' := by
  obtain ⟨ao, cap, rfl⟩ := hv.shape
  obtain ⟨n, hnn⟩ : ∃ n, n = l.length := ⟨_, rfl⟩
  have hKl : (l).length = n := by rw [hnn]
  have HX := Lib.hid (And.intro hnn (And.intro hv (And.intro ha hKl)))
  have H0 : Hid (BsM (l) p w 0 n w) := ⟨Fp.refl _ _, fun x _ h => absurd h (Nat.not_lt_zero x), fun x h1 h2 => by omega, Nat.zero_le _, by omega⟩
  rw [← hnn]
  have hnb : n ≤ 1000000 := by omega
  clear hv ha hn hnn hKl
  go_enter Tryz.func51, Tryz.ntmps51
  go_wp2_with fail
  go_loopw [7, 8] (fun i j wr => ∃ a b : Nat, a ≤ n ∧ b ≤ n ∧ i = .int .i64 a ∧ j = .int .i64 b ∧ Hid (BsM (l) p w a b wr)) (fun i j _ => (RowKit.intOf j).toNat - (RowKit.intOf i).toNat)
  case atStart => exact ⟨0, n, Nat.zero_le _, Nat.le_refl _, rfl, rfl, H0⟩
  case round =>
    clear H0
    obtain ⟨a, b, han, hbn, rfl, rfl, hR⟩ := hrel
    rename_i wr _
    by_cases hlt : a < b
    · obtain ⟨h, hh⟩ : ∃ h, h = (a + b) / 2 := ⟨_, rfl⟩
      have hab : a ≤ h ∧ h < b := by omega
      have he : ((a : Int) + (b : Int)) / 2 = (h : Int) := by omega
      have hhl : h < l.length := by rw [← HX.out.1]; omega
      have hhK : h < (l).length := by rw [HX.out.2.2.2]; omega
      have q5 : (h < n) = True := eq_true (by omega)
      have q6 : ((h : Int) < (n : Int)) = True := eq_true (by omega)
      obtain ⟨g, o, cap', e, hcell⟩ := HX.out.2.1.txs (by omega)
      injection e with e1 e2 e3
      subst e1 e3
      have hdn := fun c w' f => hR.out.below (w' := w') HX.out.2.2.1 hhK hab.1 hab.2 c f
      have hup := fun c w' f => hR.out.above (w' := w') HX.out.2.2.1 hhK hab.1 hab.2 c f
      have hc0 := hR.out.fp.cell (hcell h hhl) (fun h => h)
      obtain ⟨y, hy⟩ : ∃ y, y = l[h] := ⟨_, rfl⟩
      rw [← hy] at hdn hup hc0
      clear hy
      have HB := Lib.hid (And.intro hdn hup)
      have HA := Lib.hid (And.intro hab (And.intro han hbn))
      clear hcell hdn hup hh han hbn
      skip
      have q3 : ((a : Int) < (b : Int)) = True := eq_true (by omega)
      have q4 : (a < b) = True := eq_true hlt
      have hhb : h ≤ 1000000 := by have := HA.out; omega
      clear hhl hhK hlt hab
      cases hlo : lt y p with
      | true =>
        go_wp2_with fail
        refine (Less_c _ _ _).mono ?_
        rintro e w2 ⟨rfl, rfl⟩
        simp only [hlo]
        have hM := Lib.hid (HB.out.1 hlo _ (Fp.refl _ _))
        clear hlo
        go_wp2
        go_roundw
        case rel => exact ⟨h + 1, b, by have := HA.out; omega, HA.out.2.2, by go_num, rfl, hM⟩
        case measure => have := HA.out; simp [RowKit.intOf]; omega
      | false =>
        go_wp2_with fail
        refine (Less_c _ _ _).mono ?_
        rintro e w2 ⟨rfl, rfl⟩
        simp only [hlo]
        have hM := Lib.hid (HB.out.2 hlo _ (Fp.refl _ _))
        clear hlo
        go_wp2
        go_roundw
        case rel => exact ⟨a, h, HA.out.2.1, by have := HA.out; omega, rfl, rfl, hM⟩
        case measure => have := HA.out; simp [RowKit.intOf]; omega
    · have hab : a = b := by have := hR.out.ij; omega
      subst hab
      have hme := hR.out.mem HX.out.2.2.1
      have q3 : ((a : Int) < (a : Int)) = False := eq_false (by omega)
      by_cases hal : a < n
      · have hhl : a < l.length := by rw [← HX.out.1]; exact hal
        have hhK : a < (l).length := by rw [HX.out.2.2.2]; exact hal
        obtain ⟨g, o, cap', e, hcell⟩ := HX.out.2.1.txs (by omega)
        injection e with e1 e2 e3
        subst e1 e3
        have hfin : ∀ y, (l)[a] = y → decide (p ∈ l) = decide (y = p) := fun y hy => by
          rw [Bool.eq_iff_iff, decide_eq_true_eq, decide_eq_true_eq, hme]
          exact ⟨fun ⟨_, h⟩ => by rw [← hy]; exact h, fun h => ⟨hhK, by rw [hy]; exact h⟩⟩
        have hc0 := hR.out.fp.cell (hcell a hhl) (fun h => h)
        obtain ⟨y, hy⟩ : ∃ y, y = l[a] := ⟨_, rfl⟩
        rw [← hy] at hc0
        have hfy := hfin y hy.symm
        have q5 : ((a : Int) < (n : Int)) = True := eq_true (by omega)
        have q6 : (a < n) = True := eq_true hal
        have HZ := Lib.hid hfy
        clear hy hme hfy hfin hal hcell han hbn hhl hhK hlt
        by_cases hyp : y = p
        · have q7 : (y == p) = true := beq_iff_eq.2 hyp
          have HY := Lib.hid hyp
          clear hyp
          go_wp2
          go_ret2
          exact ⟨⟨_, by rw [HZ.out, decide_eq_true HY.out]; rfl⟩, hR.out.fp⟩
        · have q7 : (y == p) = false := beq_eq_false_iff_ne.2 hyp
          have HY := Lib.hid hyp
          clear hyp
          go_wp2_with fail
          refine (isNaN2_c _ _).mono ?_
          rintro e w2 ⟨rfl, rfl⟩
          go_wp2
          go_ret2
          exact ⟨⟨_, by rw [HZ.out, decide_eq_false HY.out]; rfl⟩, hR.out.fp⟩
      · have q5 : ((a : Int) < (n : Int)) = False := eq_false (by omega)
        have q6 : (a < n) = False := eq_false hal
        have hno : decide (p ∈ l) = false := decide_eq_false (fun h => by
          obtain ⟨h1, _⟩ := hme.1 h
          rw [HX.out.2.2.2] at h1; exact hal h1)
        have HFN := Lib.hid hno
        clear hme hal hlt han hbn hno
        go_wp2
        go_ret2
        exact ⟨⟨_, by rw [HFN.out]; rfl⟩, hR.out.fp⟩

set_option maxHeartbeats 1000000 in
theorem placeH1_c (n : Hl) (p : Bs) (w : World) :
    Calls Tryz.prog 73 #[hlV n, .string (B p)] w fun e w' => e = .returned (.int .i64 (cmpI n.d p)) ∧ Fp Non w w' := by
  obtain ⟨d, t, a⟩ := n
  unfold hlV strV
  have hf : ∀ o, Fp Non w (w.alloc o) := fun o => (Fp.refl Non w).alloc o
  have HF := Lib.hid hf
  clear hf
  go_enter Tryz.func73, Tryz.ntmps73
  go_wp2_with fail
  refine (Compare_c _ _ _).mono ?_
  rintro e w1 ⟨rfl, rfl⟩
  go_wp2
  go_ret
  exact ⟨rfl, HF.out _⟩

set_option maxHeartbeats 4000000 in
theorem SearchH_c (v : Value) (l : List Hl) (p : Bs) (w : World) (hv : NsH w v l) (ha : Up (l.map Hl.d)) (hn : l.length ≤ 1000000) :
    Calls Tryz.prog 72 #[v, .string (B p), .func (.func 73) #[] #[]] w fun e w' => (∃ z : Int, e = .returned (.tuple #[.int .i64 z, .bool (decide (p ∈ l.map Hl.d))])) ∧ Fp Non w w' := by
  obtain ⟨ao, cap, rfl⟩ := hv.shape
  obtain ⟨n, hnn⟩ : ∃ n, n = l.length := ⟨_, rfl⟩
  have hKl : (l.map Hl.d).length = n := by rw [hnn, List.length_map]
  have HX := Lib.hid (And.intro hnn (And.intro hv (And.intro ha hKl)))
  have H0 : Hid (BsM (l.map Hl.d) p w 0 n w) := ⟨Fp.refl _ _, fun x _ h => absurd h (Nat.not_lt_zero x), fun x h1 h2 => by omega, Nat.zero_le _, by omega⟩
  rw [← hnn]
  have hnb : n ≤ 1000000 := by omega
  clear hv ha hn hnn hKl
  go_enter Tryz.func72, Tryz.ntmps72
  go_wp2_with fail
  go_loopw [9, 10] (fun i j wr => ∃ a b : Nat, a ≤ n ∧ b ≤ n ∧ i = .int .i64 a ∧ j = .int .i64 b ∧ Hid (BsM (l.map Hl.d) p w a b wr)) (fun i j _ => (RowKit.intOf j).toNat - (RowKit.intOf i).toNat)
  case atStart => exact ⟨0, n, Nat.zero_le _, Nat.le_refl _, rfl, rfl, H0⟩
  case round =>
    clear H0
    obtain ⟨a, b, han, hbn, rfl, rfl, hR⟩ := hrel
    rename_i wr _
    by_cases hlt : a < b
    · obtain ⟨h, hh⟩ : ∃ h, h = (a + b) / 2 := ⟨_, rfl⟩
      have hab : a ≤ h ∧ h < b := by omega
      have he : ((a : Int) + (b : Int)) / 2 = (h : Int) := by omega
      have hhl : h < l.length := by rw [← HX.out.1]; omega
      have hhK : h < (l.map Hl.d).length := by rw [HX.out.2.2.2]; omega
      have q5 : (h < n) = True := eq_true (by omega)
      have q6 : ((h : Int) < (n : Int)) = True := eq_true (by omega)
      obtain ⟨g, o, cap', e, _, _, _, hcell⟩ := HX.out.2.1.at (by omega)
      injection e with e1 e2 e3
      subst e1 e3
      have hdn := fun c w' f => hR.out.below (w' := w') HX.out.2.2.1 hhK hab.1 hab.2 c f
      have hup := fun c w' f => hR.out.above (w' := w') HX.out.2.2.1 hhK hab.1 hab.2 c f
      have hnd := (hcell h hhl).keep hR.out.fp (fun h => h)
      simp only [List.getElem_map] at hdn hup
      obtain ⟨x, hx⟩ : ∃ x, x = l[h] := ⟨_, rfl⟩
      rw [← hx] at hdn hup hnd
      clear hx
      obtain ⟨y, xt, xa⟩ := x
      have c0 := hnd.c0; have c1 := hnd.c1; have c2 := hnd.c2
      unfold strV at c0
      simp only at c0 c1 c2 hdn hup
      clear hnd
      have HB := Lib.hid (And.intro hdn hup)
      have HA := Lib.hid (And.intro hab (And.intro han hbn))
      clear hcell hdn hup hh han hbn
      skip
      have q3 : ((a : Int) < (b : Int)) = True := eq_true (by omega)
      have q4 : (a < b) = True := eq_true hlt
      have hhb : h ≤ 1000000 := by have := HA.out; omega
      clear hhl hhK hlt hab
      cases hlo : lt y p with
      | true =>
        have z0 : (cmpI y p < 0) = True := eq_true (by unfold cmpI; rw [if_pos hlo]; decide)
        go_wp2_with fail
        refine (placeH1_c ⟨y, xt, xa⟩ _ _).mono ?_
        rintro e w2 ⟨rfl, hf2⟩
        simp only
        have hM := Lib.hid (HB.out.1 hlo _ hf2)
        clear hlo
        go_wp2
        go_roundw
        case rel => exact ⟨h + 1, b, by have := HA.out; omega, HA.out.2.2, by go_num, rfl, hM⟩
        case measure => have := HA.out; simp [RowKit.intOf]; omega
      | false =>
        have z0 : (cmpI y p < 0) = False := eq_false (by unfold cmpI; rw [if_neg (by rw [hlo]; exact Bool.false_ne_true)]; split <;> decide)
        go_wp2_with fail
        refine (placeH1_c ⟨y, xt, xa⟩ _ _).mono ?_
        rintro e w2 ⟨rfl, hf2⟩
        simp only
        have hM := Lib.hid (HB.out.2 hlo _ hf2)
        clear hlo
        go_wp2
        go_roundw
        case rel => exact ⟨a, h, HA.out.2.1, by have := HA.out; omega, rfl, rfl, hM⟩
        case measure => have := HA.out; simp [RowKit.intOf]; omega
    · have hab : a = b := by have := hR.out.ij; omega
      subst hab
      have hme := hR.out.mem HX.out.2.2.1
      have q3 : ((a : Int) < (a : Int)) = False := eq_false (by omega)
      by_cases hal : a < n
      · have hhl : a < l.length := by rw [← HX.out.1]; exact hal
        have hhK : a < (l.map Hl.d).length := by rw [HX.out.2.2.2]; exact hal
        obtain ⟨g, o, cap', e, _, _, _, hcell⟩ := HX.out.2.1.at (by omega)
        injection e with e1 e2 e3
        subst e1 e3
        have hfin : ∀ y, (l.map Hl.d)[a] = y → decide (p ∈ l.map Hl.d) = decide (y = p) := fun y hy => by
          rw [Bool.eq_iff_iff, decide_eq_true_eq, decide_eq_true_eq, hme]
          exact ⟨fun ⟨_, h⟩ => by rw [← hy]; exact h, fun h => ⟨hhK, by rw [hy]; exact h⟩⟩
        have hnd := (hcell a hhl).keep hR.out.fp (fun h => h)
        obtain ⟨x, hx⟩ : ∃ x, x = l[a] := ⟨_, rfl⟩
        rw [← hx] at hnd
        have hda : (l.map Hl.d)[a] = x.d := by rw [List.getElem_map, ← hx]
        clear hx
        obtain ⟨y, xt, xa⟩ := x
        have c0 := hnd.c0; have c1 := hnd.c1; have c2 := hnd.c2
        unfold strV at c0
        simp only at c0 c1 c2 hda
        clear hnd
        have hfy := hfin _ hda
        have q5 : ((a : Int) < (n : Int)) = True := eq_true (by omega)
        have q6 : (a < n) = True := eq_true hal
        have hz0 := hR.out.hi a hhK (Nat.le_refl _)
        rw [hda] at hz0
        have hze : (cmpI y p == 0) = decide (y = p) := by
          unfold cmpI
          rw [if_neg (by rw [hz0]; exact Bool.false_ne_true)]
          by_cases e : y = p
          · rw [if_pos e, decide_eq_true e]; rfl
          · rw [if_neg e, decide_eq_false e]; rfl
        have HZ := Lib.hid (And.intro hfy hze)
        clear hme hfy hfin hal hcell han hbn hhl hhK hlt hz0 hze hda
        go_wp2_with fail
        refine (placeH1_c ⟨y, xt, xa⟩ _ _).mono ?_
        rintro e w2 ⟨rfl, hf2⟩
        have HF := Lib.hid (hR.out.fp.then hf2)
        clear hf2
        simp only
        go_wp2
        go_ret2
        exact ⟨⟨_, by rw [HZ.out.1, ← HZ.out.2]; rfl⟩, HF.out⟩
      · have q5 : ((a : Int) < (n : Int)) = False := eq_false (by omega)
        have q6 : (a < n) = False := eq_false hal
        have hno : decide (p ∈ l.map Hl.d) = false := decide_eq_false (fun h => by
          obtain ⟨h1, _⟩ := hme.1 h
          rw [HX.out.2.2.2] at h1; exact hal h1)
        have HFN := Lib.hid hno
        clear hme hal hlt han hbn hno
        go_wp2
        go_ret2
        exact ⟨⟨_, by rw [HFN.out]; rfl⟩, hR.out.fp⟩

set_option maxHeartbeats 1000000 in
theorem place_c (v : Value) (l : List Hl) (p : Bs) (w : World) (hv : NsH w v l) (ha : Up (l.map Hl.d)) (hn : l.length ≤ 1000000) :
    Calls Tryz.prog 56 #[v, .string (B p)] w fun e w' => (∃ z : Int, e = .returned (.tuple #[.int .i64 z, .bool (decide (p ∈ l.map Hl.d))])) ∧ Fp Non w w' := by
  have hs := SearchH_c v l p w hv ha hn
  obtain ⟨ao, cap, rfl⟩ := hv.shape
  generalize decide (p ∈ l.map Hl.d) = b at *
  generalize l.length = n at *
  have HS := Lib.hid hs
  clear hs hv hn ha
  go_enter Tryz.func56, Tryz.ntmps56
  go_wp2_with fail
  refine HS.out.mono ?_
  rintro e w1 ⟨⟨z, rfl⟩, hf⟩
  have HF := Lib.hid hf
  clear hf
  go_wp2
  go_ret2
  exact ⟨⟨_, rfl⟩, HF.out⟩
end Go.Proofs.YtenaggleepoclaaGreat
