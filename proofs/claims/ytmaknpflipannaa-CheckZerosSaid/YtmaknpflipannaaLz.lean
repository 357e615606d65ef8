/- CheckZeros: the law's walk. -/
import Derived.Test.YtmaknpflipannaaCp
namespace Go.Proofs.Ytmaknpflipannaa
open Go.RowKit Pm

theorem beq_nat' (a b : Nat) : ((a : Int) == (b : Int)) = (a == b) := by
  by_cases h : a = b
  · subst h; simp
  · rw [beq_eq_false_iff_ne.2 h, beq_eq_false_iff_ne]; omega

theorem Zeros_out (a m : Int) (v : Value) (l : Bs) (w : World) (hl : Sl w v l) (h : 9000 < l.length) :
    Calls Try.prog 5 #[.int .u16 a, v, .int .u16 m] w fun e w' => e = .returned (.bool true) ∧ Fp Non w w' := by
  have q1 : ((9000 : Int) < (l.length : Int)) = True := eq_true (by omega)
  obtain ⟨ao, cap, rfl, _, _, _⟩ := hl.ex
  clear hl h
  go_enter Try.func5, Try.ntmps5
  go_wp2_with fail
  refine (head_c w).mono ?_
  rintro e w1 ⟨rfl, hfp⟩
  have HFP := Lib.hid hfp; clear hfp
  go_wp2
  go_ret
  exact ⟨rfl, HFP.out⟩

/-- Two neighbours change places. -/
theorem swapped (l : Bs) (k : Nat) (h : k + 1 < l.length) : (l.set k l[k + 1]).set (k + 1) l[k] = l.take k ++ l[k + 1] :: l[k] :: l.drop (k + 2) ∧ l = l.take k ++ l[k] :: l[k + 1] :: l.drop (k + 2) := by
  have e : l = l.take k ++ l[k] :: l[k + 1] :: l.drop (k + 2) := by
    conv => lhs; rw [← List.take_append_drop k l]
    congr 1
    rw [List.drop_eq_getElem_cons (by omega), List.drop_eq_getElem_cons (by omega)]
  refine ⟨?_, e⟩
  apply List.ext_getElem?
  intro j
  have ht : (l.take k).length = k := by simp; omega
  rw [List.getElem?_set, List.getElem?_set, List.getElem?_append]
  simp only [List.length_set, ht]
  rcases Nat.lt_trichotomy j k with hj | hj | hj
  · rw [if_neg (by omega), if_neg (by omega), if_pos hj, List.getElem?_take_of_lt hj]
  · subst hj
    rw [if_neg (by omega), if_pos rfl, if_pos (by omega), if_neg (by omega), Nat.sub_self]; rfl
  · by_cases hj2 : j = k + 1
    · subst hj2
      rw [if_pos rfl, if_pos h, if_neg (by omega), show k + 1 - k = 1 by omega]; rfl
    · rw [if_neg (by omega), if_neg (by omega), if_neg (by omega)]
      obtain ⟨d, rfl⟩ : ∃ d, j = k + 2 + d := ⟨j - (k + 2), by omega⟩
      rw [show k + 2 + d - k = d + 2 by omega]
      simp [List.getElem?_drop]

theorem sum_swapped (s : Nat) (l : Bs) (k : Nat) (h : k + 1 < l.length) : (sum s ((l.set k l[k + 1]).set (k + 1) l[k]) == sum s l) = (l[k] == l[k + 1]) := by
  obtain ⟨e1, e2⟩ := swapped l k h
  rw [e1]
  have := sum_swap s (l.take k) (l.drop (k + 2)) l[k] l[k + 1]
  rwa [← e2] at this

theorem wrap_small (n : Nat) (h : n < 100000) : wrap64 (n : Int) = (n : Int) := by unfold wrap64; omega
theorem wrap_next (n : Nat) (h : n < 100000) : wrap64 ((n : Int) + 1) = (n : Int) + 1 ∧ ((n : Int) + 1).toNat = n + 1 := by
  constructor
  · unfold wrap64; omega
  · omega

set_option maxHeartbeats 2000000 in
theorem Zeros_short (a m : Nat) (v : Value) (l : Bs) (w : World) (ha : a < 65536) (hl : Sl w v l) (h1 : l.length ≤ 9000) (h2 : l.length < 2) :
    Calls Try.prog 5 #[.int .u16 (a : Int), v, .int .u16 (m : Int)] w fun e w' => e = .returned (.bool true) ∧ Fp Non w w' := by
  obtain ⟨ao, cap, rfl, _, _, _⟩ := hl.ex
  have q1 : ((9000 : Int) < (l.length : Int)) = False := eq_false (by omega)
  have q2 : ((l.length : Int) < 2) = True := eq_true (by omega)
  clear h2
  have HB := Lib.hid (And.intro (show ([] : Bs).length + l.length ≤ 100000000 by simp; omega) (And.intro (show l.length + ([0] : Bs).length ≤ 100000000 by simp; omega) (show ([0] : Bs).length + l.length ≤ 100000000 by simp; omega)))
  obtain ⟨A, hA⟩ : ∃ A, A = sum a l := ⟨_, rfl⟩
  obtain ⟨X, hX⟩ : ∃ X, X = sum a (l ++ [0]) := ⟨_, rfl⟩
  obtain ⟨Y, hY⟩ : ∃ Y, Y = sum a (0 :: l) := ⟨_, rfl⟩
  have s1 := sum_behind a l
  have s2 : (sum a (0 :: l) == sum a l) = false := sum_ahead a l
  rw [← hX, ← hA, ← beq_nat'] at s1
  rw [← hY, ← hA, ← beq_nat'] at s2
  have HV := Lib.hid (And.intro hA (And.intro hX hY)); clear hA hX hY
  have HS := Lib.hid (And.intro ha (And.intro hl h1)); clear hl h1
  go_enter Try.func5, Try.ntmps5
  go_wp2_with fail
  refine (head_c w).mono ?_
  rintro e w1 ⟨rfl, hfp⟩
  have hl1 := HS.out.2.1.keep hfp (fun _ _ h => h)
  have k1 := Sum_c a _ _ w1 HS.out.1 hl1
  rw [← HV.out.1] at k1
  have HF := Lib.hid (And.intro hfp (And.intro hl1 k1)); clear hfp hl1 k1
  go_wp2_with fail
  refine HF.out.2.2.mono ?_
  rintro e w2 ⟨rfl, rfl⟩
  have happ := (Nw.made w1).more _ l 23 (HF.out.2.1.keep ((Fp.refl Non w1).alloc _) (fun _ _ h => h)) HB.out.1
  rw [List.nil_append] at happ
  have HA := Lib.hid happ; clear happ
  go_wp2_with (at_builtin; go_must (refine wpList_app rfl _ _ _ _ rfl _ _ rfl rfl _ HA.out ?_))
  intro v2 w2 hN
  obtain ⟨ao2, cap2, rfl⟩ := hN.shape
  have happ := (hN.alloc (.cells #[.int .u8 0] 5)).more _ [0] 23 (Sl.one w2 0) HB.out.2.1
  have HA2 := Lib.hid happ; clear happ hN HA
  go_wp2_with (at_builtin; go_must (refine wpList_app rfl _ _ _ _ rfl _ _ rfl rfl _ HA2.out ?_))
  intro v3 w3 hN
  have hf3 : Fp Non w w3 := HF.out.1.then hN.fp
  have hl3 := HS.out.2.1.keep hf3 (fun _ _ h => h)
  have happ := (Nw.made1 w3 0).more _ l 23 (hl3.keep ((Fp.refl Non w3).alloc _) (fun _ _ h => h)) HB.out.2.2
  have HA3 := Lib.hid happ; clear happ
  obtain ⟨ao3, cap3, rfl⟩ := hN.shape
  have HN3 := Lib.hid (And.intro hf3 hN); clear hf3 hl3 hN HA2
  go_wp2_with (at_builtin; go_must (refine wpList_app rfl _ _ _ _ rfl _ _ rfl rfl _ HA3.out ?_))
  intro v4 w4 hN
  have k2 := Sum_c a _ _ w4 HS.out.1 (HN3.out.2.sl.keep hN.fp (fun _ _ h => h))
  have k3 := Sum_c a _ _ w4 HS.out.1 hN.sl
  rw [← HV.out.2.1] at k2
  rw [← HV.out.2.2] at k3
  have hf4 : Fp Non w w4 := HN3.out.1.then hN.fp
  have hl4 := HS.out.2.1.keep hf4 (fun _ _ h => h)
  obtain ⟨ao4, cap4, rfl⟩ := hN.shape
  simp only [List.length_append, List.length_cons, List.length_nil] at k2 k3
  have HK := Lib.hid (And.intro k2 (And.intro k3 (And.intro hf4 hl4))); clear hf4 hl4 k2 k3 hN HN3 HA3
  go_wp2_with fail
  refine HK.out.1.mono ?_
  rintro e w5 ⟨rfl, rfl⟩
  go_wp2_with fail
  refine HK.out.2.1.mono ?_
  rintro e w5 ⟨rfl, rfl⟩
  go_wp2
  go_ret
  exact ⟨rfl, HK.out.2.2.1⟩

set_option maxHeartbeats 2000000 in
theorem Zeros_in (a m : Nat) (v : Value) (l : Bs) (w : World) (ha : a < 65536) (hm : m < 65536) (hl : Sl w v l) (h1 : l.length ≤ 9000) (h2 : 2 ≤ l.length) :
    Calls Try.prog 5 #[.int .u16 (a : Int), v, .int .u16 (m : Int)] w fun e w' => e = .returned (.bool true) ∧ Fp Non w w' := by
  obtain ⟨ao, cap, rfl, _, _, h3⟩ := hl.ex
  rcases h3 with ⟨_, h3⟩ | ⟨g, o, rfl, hg, hcell⟩
  · omega
  have q1 : ((9000 : Int) < (l.length : Int)) = False := eq_false (by omega)
  have q2 : ((l.length : Int) < 2) = False := eq_false (by omega)
  obtain ⟨L, hL⟩ : ∃ L, l.length = L + 1 := ⟨l.length - 1, by omega⟩
  obtain ⟨m1, m2⟩ := cut_mod m L
  have hk : m % L < L := Nat.mod_lt _ (by omega)
  have eL : ((l.length : Int) - 1) = (L : Int) := by omega
  generalize m % L = k at *
  have q3 : ((k : Int) < (l.length : Int)) = True := eq_true (by omega)
  have q4 : (k < l.length) = True := eq_true (by omega)
  have q5 : (L = 0) = False := eq_false (by omega)
  have HW := Lib.hid (And.intro (wrap_small L (by omega)) (And.intro (wrap_small m (by omega)) (wrap_next k (by omega))))
  have q6 : ((k : Int) + 1 < (l.length : Int)) = True := eq_true (by omega)
  have q7 : (k + 1 < l.length) = True := eq_true (by omega)
  have ck := hcell k (by omega)
  have ck1 := hcell (k + 1) (by omega)
  have hk1 : k + 1 < l.length := by omega
  have s3 := sum_swapped a l k hk1
  have hsw : ∃ M, M = (l.set k l[k + 1]).set (k + 1) l[k] := ⟨_, rfl⟩
  obtain ⟨M, hM⟩ := hsw
  rw [← hM] at s3
  obtain ⟨D, hD⟩ : ∃ D, D = sum a M := ⟨_, rfl⟩
  have hcc : ((l[k].toNat : Int) == (l[k + 1].toNat : Int)) = (l[k] == l[k + 1]) := by
    by_cases h : l[k] = l[k + 1]
    · rw [h]; simp
    · rw [beq_eq_false_iff_ne.2 h, beq_eq_false_iff_ne]
      intro e
      exact h (UInt8.toNat_inj.1 (by omega))
  obtain ⟨E, hE⟩ : ∃ E, E = (l[k] == l[k + 1]) := ⟨_, rfl⟩
  rw [← hE] at hcc s3
  clear hE
  obtain ⟨x, hx⟩ : ∃ x, x = l[k] := ⟨_, rfl⟩
  obtain ⟨y, hy⟩ : ∃ y, y = l[k + 1] := ⟨_, rfl⟩
  rw [← hx] at hM hcc ck
  rw [← hy] at hM hcc ck1
  clear hx hy
  have HB := Lib.hid (And.intro (show ([] : Bs).length + l.length ≤ 100000000 by simp; omega) (And.intro (show l.length + ([0] : Bs).length ≤ 100000000 by simp; omega) (show ([0] : Bs).length + l.length ≤ 100000000 by simp; omega)))
  obtain ⟨A, hA⟩ : ∃ A, A = sum a l := ⟨_, rfl⟩
  obtain ⟨X, hX⟩ : ∃ X, X = sum a (l ++ [0]) := ⟨_, rfl⟩
  obtain ⟨Y, hY⟩ : ∃ Y, Y = sum a (0 :: l) := ⟨_, rfl⟩
  have s1 := sum_behind a l
  have s2 : (sum a (0 :: l) == sum a l) = false := sum_ahead a l
  rw [← hX, ← hA, ← beq_nat'] at s1
  rw [← hY, ← hA, ← beq_nat'] at s2
  rw [← hD, ← hA, ← beq_nat'] at s3
  have HV := Lib.hid (And.intro hA (And.intro hX hY)); clear hA hX hY
  have HS := Lib.hid (And.intro ha (And.intro hl h1)); clear hl h1
  have HD := Lib.hid (And.intro hD (And.intro hM (And.intro hk1 hg))); clear hD hM hk hk1 h2 hcell hg hL hm
  have wL := HW.out.1
  have wm := HW.out.2.1
  obtain ⟨wk, wt⟩ := HW.out.2.2
  go_enter Try.func5, Try.ntmps5
  go_wp2_with fail
  refine (head_c w).mono ?_
  rintro e w1 ⟨rfl, hfp⟩
  have hl1 := HS.out.2.1.keep hfp (fun _ _ h => h)
  have k1 := Sum_c a _ _ w1 HS.out.1 hl1
  rw [← HV.out.1] at k1
  have HF := Lib.hid (And.intro hfp (And.intro hl1 k1)); clear hfp hl1 k1
  go_wp2_with fail
  refine HF.out.2.2.mono ?_
  rintro e w2 ⟨rfl, rfl⟩
  have happ := (Nw.made w1).more _ l 23 (HF.out.2.1.keep ((Fp.refl Non w1).alloc _) (fun _ _ h => h)) HB.out.1
  rw [List.nil_append] at happ
  have HA := Lib.hid happ; clear happ
  go_wp2_with (at_builtin; go_must (refine wpList_app rfl _ _ _ _ rfl _ _ rfl rfl _ HA.out ?_))
  intro v2 w2 hN
  obtain ⟨ao2, cap2, rfl⟩ := hN.shape
  have happ := (hN.alloc (.cells #[.int .u8 0] 5)).more _ [0] 23 (Sl.one w2 0) HB.out.2.1
  have HA2 := Lib.hid happ; clear happ hN HA
  go_wp2_with (at_builtin; go_must (refine wpList_app rfl _ _ _ _ rfl _ _ rfl rfl _ HA2.out ?_))
  intro v3 w3 hN
  have hf3 : Fp Non w w3 := HF.out.1.then hN.fp
  have hl3 := HS.out.2.1.keep hf3 (fun _ _ h => h)
  have happ := (Nw.made1 w3 0).more _ l 23 (hl3.keep ((Fp.refl Non w3).alloc _) (fun _ _ h => h)) HB.out.2.2
  have HA3 := Lib.hid happ; clear happ
  obtain ⟨ao3, cap3, rfl⟩ := hN.shape
  have HN3 := Lib.hid (And.intro hf3 hN); clear hf3 hl3 hN HA2
  go_wp2_with (at_builtin; go_must (refine wpList_app rfl _ _ _ _ rfl _ _ rfl rfl _ HA3.out ?_))
  intro v4 w4 hN
  have k2 := Sum_c a _ _ w4 HS.out.1 (HN3.out.2.sl.keep hN.fp (fun _ _ h => h))
  have k3 := Sum_c a _ _ w4 HS.out.1 hN.sl
  rw [← HV.out.2.1] at k2
  rw [← HV.out.2.2] at k3
  have hf4 : Fp Non w w4 := HN3.out.1.then hN.fp
  have hl4 := HS.out.2.1.keep hf4 (fun _ _ h => h)
  obtain ⟨ao4, cap4, rfl⟩ := hN.shape
  simp only [List.length_append, List.length_cons, List.length_nil] at k2 k3
  have HK := Lib.hid (And.intro k2 (And.intro k3 (And.intro hf4 hl4))); clear hf4 hl4 k2 k3 hN HN3 HA3
  go_wp2_with fail
  refine HK.out.1.mono ?_
  rintro e w5 ⟨rfl, rfl⟩
  go_wp2_with fail
  refine HK.out.2.1.mono ?_
  rintro e w5 ⟨rfl, rfl⟩
  have happ := (Nw.made w4).more _ l 23 (HK.out.2.2.2.keep ((Fp.refl Non w4).alloc _) (fun _ _ h => h)) HB.out.1
  rw [List.nil_append] at happ
  have HA := Lib.hid happ; clear happ
  go_wp2_with (at_builtin; go_must (refine wpList_app rfl _ _ _ _ rfl _ _ rfl rfl _ HA.out ?_))
  intro v5 w5 hN
  obtain ⟨g', cap', rfl, hc', hg', hfz⟩ := hN.some (Nat.lt_of_le_of_lt (Nat.zero_le _) HD.out.2.2.1)
  have f5 : Fp Non w w5 := HK.out.2.2.1.then hN.fp
  have hge : w.heap.size ≤ g' := Nat.le_trans HK.out.2.2.1.size hg'
  have hgo : g ≠ g' := fun e => absurd HD.out.2.2.2 (by rw [e]; exact Nat.not_lt.2 hge)
  have n1 := hN.sl.set k (Nat.lt_of_succ_lt HD.out.2.2.1) y
  have n2 := n1.set (k + 1) (by have := HD.out.2.2.1; rw [List.length_set]; exact this) x
  rw [← HD.out.2.1] at n2
  have f6 : Fp Non w (w5.setCell ⟨g', 0 + k, none⟩ (.int .u8 (y.toNat : Int))) := f5.setCell (.inr hge) _
  have f7 := f6.setCell (p := ⟨g', 0 + (k + 1), none⟩) (.inr hge) (.int .u8 (x.toNat : Int))
  have cell2 : ∃ u, w5.cell? ⟨g', k, none⟩ = some u ∧ ∃ u2, w5.cell? ⟨g', k + 1, none⟩ = some u2 := by
    obtain ⟨ao', cap2, e, _, _, h3⟩ := hN.sl.ex
    injection e with e1 e2 e3
    subst e1 e3
    rcases h3 with ⟨h, _⟩ | ⟨g2, o2, e, _, h3⟩
    · cases h
    · injection e with e
      injection e with e1 e2
      subst e1 e2
      have j1 := h3 k (Nat.lt_of_succ_lt HD.out.2.2.1)
      have j2 := h3 (k + 1) HD.out.2.2.1
      rw [Nat.zero_add] at j1 j2
      exact ⟨_, j1, _, j2⟩
  obtain ⟨u, cu, u2, cu2⟩ := cell2
  rw [Nat.zero_add] at n2 f6 f7
  rw [Nat.zero_add] at n2 f7
  have cb1 := f5.cell ck1 (fun h => h)
  have cb := f6.cell ck (fun h => h)
  have cb7 := f7.cell ck (fun h => h)
  have cb8 := f7.cell ck1 (fun h => h)
  have hfk := hfz k
  have hfk1 := hfz (k + 1)
  have p1 := fun n => Sum_c a _ _ _ HS.out.1 (n2.keep ((Fp.refl Non _).drewN n) (fun _ _ h => h))
  rw [← HD.out.1] at p1
  have HP := Lib.hid (And.intro p1 (And.intro f7 (And.intro cb7 cb8))); clear p1 f7 f6 f5 n1 n2 hN hfz HA ck ck1 hge cb7 cb8
  clear m1 m2 wL wm eL q5
  go_wp2_with fail
  have cb7 := HP.out.2.2.1
  have cb8 := HP.out.2.2.2
  go_quiet (first
    | (go_at_call 10; refine (HP.out.1 _).mono ?_; rintro e w' ⟨rfl, rfl⟩; exact ⟨rfl, _, rfl⟩))
  go_wp2
  go_ret
  exact ⟨rfl, HP.out.2.1.drewN _⟩

theorem CheckZeros_c (a : Int) (v : Value) (l : Bs) (m : Int) (w : World) (ha : 0 ≤ a ∧ a ≤ 65535) (hl : Sl w v l) (hm : 0 ≤ m ∧ m ≤ 65535) :
    Calls Try.prog 5 #[.int .u16 a, v, .int .u16 m] w fun e w' => e = .returned (.bool true) ∧ Fp Non w w' := by
  by_cases h : 9000 < l.length
  · exact Zeros_out a m v l w hl h
  · obtain ⟨a, rfl⟩ := Int.eq_ofNat_of_zero_le ha.1
    obtain ⟨m, rfl⟩ := Int.eq_ofNat_of_zero_le hm.1
    by_cases h2 : l.length < 2
    · exact Zeros_short a m v l w (by omega) hl (by omega) h2
    · exact Zeros_in a m v l w (by omega) (by omega) hl (by omega) (by omega)
end Go.Proofs.Ytmaknpflipannaa
