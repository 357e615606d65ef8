/- Where a session lies: BinarySearchFunc, place (gen_yj.py) -/
import Derived.Test.YtjdpbieifcjmiaaYc
namespace Go.Proofs.Ytjdpbieifcjmiaa
set_option maxRecDepth 20000
set_option linter.unusedVariables false
set_option linter.unusedSimpArgs false
open Go.RowKit Pm


/-- How many sessions have a lesser number. -/
def plS : List Se → Int → Nat
  | [], _ => 0
  | s :: r, n => if s.num < n then plS r n + 1 else 0
theorem plS_of {l : List Se} {n : Int} {k : Nat} (hk : k ≤ l.length) (h1 : ∀ i (h : i < l.length), i < k → l[i].num < n) (h2 : ∀ i (h : i < l.length), k ≤ i → ¬ l[i].num < n) : plS l n = k := by
  induction l generalizing k with
  | nil => have : k = 0 := by simpa using hk
           subst this; rfl
  | cons s r ih =>
    unfold plS
    cases k with
    | zero => rw [if_neg (by have := h2 0 (by simp) (Nat.le_refl _); simpa using this)]
    | succ k =>
      rw [if_pos (by have := h1 0 (by simp) (Nat.succ_pos _); simpa using this)]
      rw [ih (k := k) (by simpa using hk) (fun i h hi => h1 (i + 1) (Nat.succ_lt_succ h) (by omega)) (fun i h hi => h2 (i + 1) (Nat.succ_lt_succ h) (by omega))]
theorem plS_le (l : List Se) (n : Int) : plS l n ≤ l.length := by
  induction l with
  | nil => exact Nat.le_refl _
  | cons s r ih => unfold plS; split <;> simp <;> omega
theorem getS_plS {l : List Se} (h : l.Pairwise (fun a b => a.num < b.num)) (n : Int) : getS l n = if h : plS l n < l.length then (if l[plS l n].num = n then some l[plS l n] else none) else none := by
  induction l with
  | nil => rfl
  | cons s r ih =>
    rw [List.pairwise_cons] at h
    by_cases h1 : s.num < n
    · have e : plS (s :: r) n = plS r n + 1 := by simp only [plS, if_pos h1]
      simp only [e, getS]
      rw [if_neg (by omega), ih h.2]
      by_cases h2 : plS r n < r.length
      · rw [dif_pos h2, dif_pos (by simpa using h2)]
        simp only [List.getElem_cons_succ]
      · rw [dif_neg h2, dif_neg (by simpa using h2)]
    · have e : plS (s :: r) n = 0 := by simp only [plS, if_neg h1]
      simp only [e, getS]
      rw [dif_pos (by simp)]
      simp only [List.getElem_cons_zero]
      by_cases h2 : s.num = n
      · rw [if_pos h2, if_pos h2]
      · rw [if_neg h2, if_neg h2]
        cases hg : getS r n with
        | none => rfl
        | some x =>
          obtain ⟨hx, hxn⟩ := getS_some hg
          have := h.1 x hx
          omega
def AscV (l : List Sv) : Prop := ∀ i j (hi : i < l.length) (hj : j < l.length), i < j → l[i].s.num < l[j].s.num
theorem ascV_of {l : List Sv} (h : (l.map Sv.s).Pairwise (fun a b => a.num < b.num)) : AscV l := fun i j hi hj hij => by
  have := (List.pairwise_iff_getElem.1 h) i j (by simpa using hi) (by simpa using hj) hij
  simpa using this
theorem AscV.pw {l : List Sv} (h : AscV l) : (l.map Sv.s).Pairwise (fun a b => a.num < b.num) := by
  rw [List.pairwise_iff_getElem]
  intro i j hi hj hij
  simpa using h i j (by simpa using hi) (by simpa using hj) hij
theorem getS_place {l : List Sv} (h : AscV l) (n : Int) : getS (l.map Sv.s) n = if h : plS (l.map Sv.s) n < (l.map Sv.s).length then (if (l.map Sv.s)[plS (l.map Sv.s) n].num = n then some (l.map Sv.s)[plS (l.map Sv.s) n] else none) else none := getS_plS h.pw n
/-- putS, by the place. -/
theorem putS_place {l : List Se} (h : l.Pairwise (fun a b => a.num < b.num)) (s : Se) : putS l s = l.take (plS l s.num) ++ s :: l.drop (if (getS l s.num).isSome = true then plS l s.num + 1 else plS l s.num) := by
  induction l with
  | nil => rfl
  | cons x r ih =>
    rw [List.pairwise_cons] at h
    by_cases h1 : x.num < s.num
    · simp only [putS, plS, getS, if_pos h1, if_neg (show ¬ x.num = s.num by omega)]
      rw [ih h.2]
      split <;> rename_i hs <;> simp [hs]
    · by_cases h2 : x.num = s.num
      · simp only [putS, plS, getS, if_neg h1, if_pos h2]; simp
      · have hn : getS r s.num = none := by
          cases hg : getS r s.num with
          | none => rfl
          | some y =>
            obtain ⟨hy, hyn⟩ := getS_some hg
            have := h.1 y hy
            omega
        simp only [putS, plS, getS, if_neg h1, if_neg h2, hn]; simp

def cmpN (a b : Int) : Int := if a < b then -1 else if b < a then 1 else 0
set_option maxHeartbeats 400000 in
theorem isNaN_c (a : Int) (w : World) : Calls Try.prog 57 #[.int .i64 a] w fun e w' => e = .returned (.bool false) ∧ w' = w := by
  go_enter Try.func57, Try.ntmps57
  go_wp2
  go_ret
  exact ⟨by simp, rfl⟩
set_option maxHeartbeats 400000 in
theorem Compare_c (a b : Int) (w : World) : Calls Try.prog 50 #[.int .i64 a, .int .i64 b] w fun e w' => e = .returned (.int .i64 (cmpN a b)) ∧ w' = w := by
  go_enter Try.func50, Try.ntmps50
  go_wp2_with fail
  refine (isNaN_c _ _).mono ?_
  rintro e w1 ⟨rfl, rfl⟩
  go_wp2_with fail
  refine (isNaN_c _ _).mono ?_
  rintro e w1 ⟨rfl, rfl⟩
  go_wp2
  all_goals
    go_ret
    refine ⟨ret_int ?_, rfl⟩
    unfold cmpN
    split <;> (try split) <;> omega
set_option maxHeartbeats 1000000 in
theorem placeV1_c (x : Sv) (n : Int) (w : World) : Calls Try.prog 49 #[svV x, .int .i64 n] w fun e w' => e = .returned (.int .i64 (cmpN x.s.num n)) ∧ Fp Non w w' := by
  obtain ⟨⟨a, b, l⟩, o, c⟩ := x
  unfold svV Sv.ev
  have hf : ∀ o, Fp Non w (w.alloc o) := fun o => (Fp.refl Non w).alloc o
  have HF := Lib.hid hf
  clear hf
  simp only
  generalize l.length = m
  go_enter Try.func49, Try.ntmps49
  go_wp2_with fail
  refine (Compare_c _ _ _).mono ?_
  rintro e w1 ⟨rfl, rfl⟩
  go_wp2
  go_ret
  exact ⟨rfl, HF.out _⟩

/-- Between i and j it lies. -/
structure BsV (l : List Sv) (p : Int) (w : World) (i j : Nat) (wr : World) : Prop where
  fp : Fp Non w wr
  lo : ∀ x (h : x < l.length), x < i → l[x].s.num < p
  hi : ∀ x (h : x < l.length), j ≤ x → p ≤ l[x].s.num
  ij : i ≤ j
  jn : j ≤ l.length

set_option maxHeartbeats 2000000 in
theorem SearchV_c (v : Value) (l : List Sv) (p : Int) (w : World) (hv : NsV w v l) (ha : AscV l) (hn : l.length ≤ 1000000) :
    Calls Try.prog 48 #[v, .int .i64 p, .func (.func 49) #[] #[]] w fun e w' => e = .returned (.tuple #[.int .i64 (plS (l.map Sv.s) p), .bool (getS (l.map Sv.s) p).isSome]) ∧ Fp Non w w' := by
  obtain ⟨ao, cap, rfl⟩ := hv.shape
  obtain ⟨n, hnn⟩ : ∃ n, n = l.length := ⟨_, rfl⟩
  have HX := Lib.hid (And.intro hnn (And.intro hv ha))
  have H0 : Hid (BsV l p w 0 n w) := ⟨Fp.refl _ _, fun x _ h => absurd h (Nat.not_lt_zero x), fun x h1 h2 => by omega, Nat.zero_le _, by omega⟩
  rw [← hnn]
  have hnb : n ≤ 1000000 := by omega
  clear hv ha hn hnn
  go_enter Try.func48, Try.ntmps48
  go_wp2_with fail
  go_loopw [9, 10] (fun i j wr => ∃ a b : Nat, a ≤ n ∧ b ≤ n ∧ i = .int .i64 a ∧ j = .int .i64 b ∧ Hid (BsV l p w a b wr)) (fun i j _ => (RowKit.intOf j).toNat - (RowKit.intOf i).toNat)
  case atStart => exact ⟨0, n, Nat.zero_le _, Nat.le_refl _, rfl, rfl, H0⟩
  case round =>
    obtain ⟨a, b, han, hbn, rfl, rfl, hR⟩ := hrel
    rename_i wr _
    by_cases hlt : a < b
    · obtain ⟨h, hh⟩ : ∃ h, h = (a + b) / 2 := ⟨_, rfl⟩
      have hab : a ≤ h ∧ h < b := by omega
      have he : ((a : Int) + (b : Int)) / 2 = (h : Int) := by omega
      have hhl : h < l.length := by rw [← HX.out.1]; omega
      have q5 : (h < n) = True := eq_true (by omega)
      have q6 : ((h : Int) < (n : Int)) = True := eq_true (by omega)
      obtain ⟨g, o, cap', e, _, _, _, hcell⟩ := HX.out.2.1.at (by omega)
      injection e with e1 e2 e3
      subst e1 e3
      have hnd := (hcell h hhl).keep hR.out.fp (fun h => h)
      have hdn : l[h].s.num < p → ∀ x (hx : x < l.length), x < h + 1 → l[x].s.num < p := fun k x hx hxh => by
        rcases Nat.lt_or_eq_of_le (show x ≤ h by omega) with e | e
        · exact Int.lt_trans (HX.out.2.2 x h hx hhl e) k
        · subst e; exact k
      have hup : p ≤ l[h].s.num → ∀ x (hx : x < l.length), h ≤ x → p ≤ l[x].s.num := fun k x hx hxh => by
        rcases Nat.lt_or_eq_of_le hxh with e | e
        · have := HX.out.2.2 h x hhl hx e; omega
        · subst e; exact k
      have hpc := fun w => placeV1_c l[h] p w
      have HB := Lib.hid (And.intro hdn hup)
      have HA := Lib.hid (And.intro hab (And.intro han hbn))
      clear hcell hdn hup hh han hbn
      generalize l[h] = y at *
      have c0 := hnd.c0; have c1 := hnd.c1; have c2 := hnd.c2
      unfold Sv.ev at c2
      unfold svV Sv.ev at hpc
      have q3 : ((a : Int) < (b : Int)) = True := eq_true (by omega)
      have q4 : (a < b) = True := eq_true hlt
      have hcmp : ∃ z, cmpN y.s.num p = z := ⟨_, rfl⟩
      obtain ⟨z, hz⟩ := hcmp
      rw [hz] at hpc
      have HPC := Lib.hid hpc
      have hhb : h ≤ 1000000 := by have := HA.out; omega
      clear hnd hpc hhl hlt hab
      by_cases hlo : y.s.num < p
      · have z0 : (z < 0) = True := eq_true (by rw [← hz]; unfold cmpN; rw [if_pos hlo]; decide)
        have HLo := Lib.hid hlo
        clear hz hlo
        go_wp2_with fail
        refine (HPC.out _).mono ?_
        rintro e w2 ⟨rfl, hf2⟩
        have hM : Hid (BsV l p w (h + 1) b w2) := ⟨hR.out.fp.then hf2, HB.out.1 HLo.out, hR.out.hi, by have := HA.out.1; omega, hR.out.jn⟩
        clear hf2
        go_wp2
        go_roundw
        case rel => exact ⟨h + 1, b, by have := HA.out; omega, HA.out.2.2, by go_num, rfl, hM⟩
        case measure => have := HA.out; simp [RowKit.intOf]; omega
      · have hlo' : p ≤ y.s.num := by omega
        have z0 : (z < 0) = False := eq_false (by rw [← hz]; unfold cmpN; rw [if_neg hlo]; split <;> decide)
        have HLo := Lib.hid hlo'
        clear hz hlo hlo'
        go_wp2_with fail
        refine (HPC.out _).mono ?_
        rintro e w2 ⟨rfl, hf2⟩
        have hM : Hid (BsV l p w a h w2) := ⟨hR.out.fp.then hf2, hR.out.lo, HB.out.2 HLo.out, by have := HA.out.1; omega, by have := HA.out.1; have := hR.out.jn; omega⟩
        clear hf2
        go_wp2
        go_roundw
        case rel => exact ⟨a, h, HA.out.2.1, by have := HA.out; omega, rfl, rfl, hM⟩
        case measure => have := HA.out; simp [RowKit.intOf]; omega
    · have hab : a = b := by have := hR.out.ij; omega
      subst hab
      have hpl : plS (l.map Sv.s) p = a := plS_of (by simpa using hR.out.jn) (fun x hx h => by simpa using hR.out.lo x (by simpa using hx) h) (fun x hx h => by have := hR.out.hi x (by simpa using hx) h; simp only [List.getElem_map]; omega)
      have q3 : ((a : Int) < (a : Int)) = False := eq_false (by omega)
      have hfp := getS_place HX.out.2.2 p
      rw [hpl] at hfp
      have HP := Lib.hid hpl
      by_cases hal : a < n
      · have hal' : a < l.length := by rw [← HX.out.1]; exact hal
        rw [dif_pos (by simpa using hal')] at hfp
        simp only [List.getElem_map] at hfp
        obtain ⟨g, o, cap', e, _, _, _, hcell⟩ := HX.out.2.1.at (by omega)
        injection e with e1 e2 e3
        subst e1 e3
        have hnd := (hcell a hal').keep hR.out.fp (fun h => h)
        have hpc := fun w => placeV1_c l[a] p w
        have hnl := hR.out.hi a hal' (Nat.le_refl _)
        clear hcell
        generalize l[a] = y at *
        have c0 := hnd.c0; have c1 := hnd.c1; have c2 := hnd.c2
        unfold Sv.ev at c2
        unfold svV Sv.ev at hpc
        have q5 : ((a : Int) < (n : Int)) = True := eq_true (by omega)
        have q6 : (a < n) = True := eq_true hal
        obtain ⟨z, hz⟩ : ∃ z, cmpN y.s.num p = z := ⟨_, rfl⟩
        have hze : (z == 0) = (getS (l.map Sv.s) p).isSome := by
          rw [hfp, ← hz]; unfold cmpN
          rw [if_neg (by omega)]
          by_cases e : y.s.num = p
          · rw [if_neg (by omega), if_pos e]; rfl
          · rw [if_pos (by omega), if_neg e]; rfl
        rw [hz] at hpc
        have HPC := Lib.hid hpc
        have HZ := Lib.hid hze
        clear hnd hpc hz hze hfp hnl hal hal' hpl han hbn
        go_wp2_with fail
        refine (HPC.out _).mono ?_
        rintro e w2 ⟨rfl, hf2⟩
        have HF := Lib.hid (hR.out.fp.then hf2)
        clear hf2
        go_wp2
        go_ret2
        exact ⟨by rw [HP.out, ← HZ.out]; rfl, HF.out⟩
      · have q5 : ((a : Int) < (n : Int)) = False := eq_false (by omega)
        have q6 : (a < n) = False := eq_false hal
        rw [dif_neg (by rw [List.length_map, ← HX.out.1]; exact hal)] at hfp
        have HFN := Lib.hid hfp
        clear hfp hpl hal hlt han hbn
        go_wp2
        go_ret2
        exact ⟨by rw [HP.out, HFN.out]; rfl, hR.out.fp⟩

set_option maxHeartbeats 1000000 in
theorem place_c (v : Value) (ss : List Se) (n : Int) (w : World) (hv : Ses w v ss) (ha : ss.Pairwise (fun a b => a.num < b.num)) (hn : ss.length ≤ 1000000) :
    Calls Try.prog 32 #[v, .int .i64 n] w fun e w' => e = .returned (.tuple #[.int .i64 (plS ss n), .bool (getS ss n).isSome]) ∧ Fp Non w w' := by
  obtain ⟨L, rfl, h1, _⟩ := hv.ex
  have hs := SearchV_c v L n w h1 (ascV_of ha) (by simpa using hn)
  obtain ⟨ao, cap, rfl⟩ := h1.shape
  generalize L.length = k at *
  have HS := Lib.hid hs
  clear hs hv hn ha h1
  go_enter Try.func32, Try.ntmps32
  go_wp2_with fail
  refine HS.out.mono ?_
  rintro e w1 ⟨rfl, hf⟩
  have HF := Lib.hid hf
  clear hf
  go_wp2
  go_ret2
  exact ⟨rfl, HF.out⟩
end Go.Proofs.Ytjdpbieifcjmiaa
