/- LocksRing: of two transactions each of which holds a directory that the other one asks, just one is wounded: the younger one (gen_ue.py) -/
import Derived.Test.YtenaggleepoclaaJv
namespace Go.Proofs.Ytenaggleepoclaa
set_option maxRecDepth 20000
set_option linter.unusedVariables false
set_option linter.unusedSimpArgs false
open Go.RowKit Pm


theorem conv32 (w : World) (s : Int) (h : 0 ≤ s ∧ s ≤ 4294967295) : IntKind.i64.wrap s = s := by rw [IntKind.wrap_i64]; omega
theorem ElAt.nm0 {w : World} {g o : Nat} {x : Int} (h : ElAt nmC w g (o + 0 * 1) x) : w.cell? ⟨g, o, none⟩ = some (.int .i64 x) := by
  have := h.get 0 _ rfl
  simpa using this

set_option maxHeartbeats 8000000 in
theorem lawLocksRing_c (a b x y : Int) (vo : Value) (one : List Bs) (vt : Value) (two : List Bs) (w : World) (ha : 0 ≤ a ∧ a ≤ 4294967295) (hb : 0 ≤ b ∧ b ≤ 4294967295) (hx : 0 ≤ x ∧ x ≤ 4294967295) (hy : 0 ≤ y ∧ y ≤ 4294967295) (ho : Tx w vo one) (hon : one.length ≤ 140737488355328) (ht : Tx w vt two) (htn : two.length ≤ 140737488355328) :
    Calls Try.prog 3 #[.int .u32 a, .int .u32 b, .int .u32 x, .int .u32 y, vo, vt] w fun e w' => e = .returned (.bool true) ∧ Fp Non w w' := by
  obtain ⟨ao, co, rfl⟩ := ho.shape
  obtain ⟨at_, ct, rfl⟩ := ht.shape
  have ca := conv32 w a ha
  have cb := conv32 w b hb
  have cx := conv32 w x hx
  have cy := conv32 w y hy
  clear ha hb hx hy
  have hg1 := fun W (f : Fp Non w W) => great_c (.slice none 0 0) _ [] one W (NsH.nil W) (ho.non f) (by simp) hon
  have hg2 := fun W (f : Fp Non w W) => great_c (.slice none 0 0) _ [] two W (NsH.nil W) (ht.non f) (by simp) htn
  obtain ⟨n, hnn⟩ : ∃ n, n = one.length := ⟨_, rfl⟩
  obtain ⟨m, hmm⟩ : ∃ m, m = two.length := ⟨_, rfl⟩
  rw [← hnn] at ho hg1 ⊢
  rw [← hmm] at ht hg2 ⊢
  have HNN := Lib.hid (And.intro hnn (And.intro hmm (And.intro ho ht)))
  have HG := Lib.hid (And.intro hg1 hg2)
  clear hg1 hg2 ho ht hnn hmm hon htn
  go_enter Try.func3, Try.ntmps3
  go_wp2_with fail
  refine (head_c _).mono ?_
  rintro e w1 ⟨rfl, hf1⟩
  have F1 := Lib.hid hf1
  clear hf1
  go_wp2_with fail
  refine (HG.out.1 _ F1.out).mono ?_
  rintro e w2 ⟨gr, rfl, hg, hf2⟩
  have F2 := Lib.hid (F1.out.then hf2)
  clear hf2 F1
  cases gr with
  | true =>
    clear hg
    go_wp2
    go_ret
    exact ⟨rfl, F2.out⟩
  | false =>
  have FE1 := Lib.hid (hg rfl)
  clear hg
  go_wp2_with fail
  refine (HG.out.2 _ F2.out).mono ?_
  rintro e w3 ⟨gr, rfl, hg, hf3⟩
  have F3 := Lib.hid (F2.out.then hf3)
  clear hf3 F2
  cases gr with
  | true =>
    clear hg
    go_wp2
    go_ret
    exact ⟨rfl, F3.out⟩
  | false =>
  have FE2 := Lib.hid (hg rfl)
  clear hg
  have hnb : n ≤ 200 := by have := FE1.out.nd; have := HNN.out.1; omega
  have hmb : m ≤ 200 := by have := FE2.out.nd; have := HNN.out.2.1; omega
  by_cases hab : a = b
  · have haba : (a == b) = true := beq_iff_eq.2 hab
    have habb : (a = b) = True := eq_true hab
    clear hab
    go_wp2
    go_ret
    exact ⟨rfl, F3.out⟩
  have haba : (a == b) = false := beq_eq_false_iff_ne.2 hab
  have habb : (a = b) = False := eq_false hab
  by_cases hn0 : n = 0
  · have hn0a : ((n : Int) == 0) = true := beq_iff_eq.2 (by omega)
    have hn0b : ((n : Int) = 0) = True := eq_true (by omega)
    have hn0c : (n = 0) = True := eq_true hn0
    have hn0d : (n == 0) = true := beq_iff_eq.2 hn0
    clear hn0
    go_wp2
    go_ret
    exact ⟨rfl, F3.out⟩
  have hn0a : ((n : Int) == 0) = false := beq_eq_false_iff_ne.2 (by omega)
  have hn0b : ((n : Int) = 0) = False := eq_false (by omega)
  have hn0c : (n = 0) = False := eq_false hn0
  have hn0d : (n == 0) = false := beq_eq_false_iff_ne.2 hn0
  by_cases hm0 : m = 0
  · have hm0a : ((m : Int) == 0) = true := beq_iff_eq.2 (by omega)
    have hm0b : ((m : Int) = 0) = True := eq_true (by omega)
    have hm0c : (m = 0) = True := eq_true hm0
    have hm0d : (m == 0) = true := beq_iff_eq.2 hm0
    clear hm0
    go_wp2
    go_ret
    exact ⟨rfl, F3.out⟩
  have hm0a : ((m : Int) == 0) = false := beq_eq_false_iff_ne.2 (by omega)
  have hm0b : ((m : Int) = 0) = False := eq_false (by omega)
  have hm0c : (m = 0) = False := eq_false hm0
  have hm0d : (m == 0) = false := beq_eq_false_iff_ne.2 hm0
  have HNE := Lib.hid (And.intro hab (And.intro (show one ≠ [] from fun e => hn0 (by rw [HNN.out.1, e]; rfl)) (show two ≠ [] from fun e => hm0 (by rw [HNN.out.2.1, e]; rfl))))
  clear hab hn0 hm0
  have htk1 := fun u M t ag W (hW : NsH W u M) (hs : HSp M) (hl : M.length ≤ 400) (f : Fp Non w W) => Take_c u _ M t ag one W hW hs (HNN.out.2.2.1.non f |> fun h => by rw [HNN.out.1] at h; exact h) FE1.out.ss (by omega) (by have := FE1.out.nd; omega)
  have htk2 := fun u M t ag W (hW : NsH W u M) (hs : HSp M) (hl : M.length ≤ 400) (f : Fp Non w W) => Take_c u _ M t ag two W hW hs (HNN.out.2.2.2.non f |> fun h => by rw [HNN.out.2.1] at h; exact h) FE2.out.ss (by omega) (by have := FE2.out.nd; omega)
  rw [← HNN.out.1] at htk1
  rw [← HNN.out.2.1] at htk2
  have HTK := Lib.hid (And.intro htk1 htk2)
  clear htk1 htk2
  obtain ⟨A, wl, is, hA⟩ : ∃ zA wl is, takeH [] a x one = (zA, wl, is) := ⟨_, _, _, rfl⟩
  go_wp2_with fail
  refine (HTK.out.1 _ [] a x _ (NsH.nil _) (fun z hz => by cases hz) (by simp) F3.out).mono ?_
  intro e w4 hR
  obtain ⟨x4, c4, y4, d4, rfl, n4, m4⟩ := hR.sh
  rw [hA] at n4 m4 ⊢
  simp only at n4 m4 ⊢
  have K4 := Lib.hid (Kp.and (Kp.nsH n4) (Kp.fp (F3.out.then hR.fp)))
  have hAs : HSp A := by have := take_sp [] a x one; rw [hA] at this; exact this
  clear hR n4 m4 F3
  have hAl : A.length ≤ 200 := by
    cases is with
    | true =>
      obtain ⟨hm1, hAe⟩ := take_nil hA
      have h1 : (A.map Hl.d).length ≤ one.length := sub_len ((map_up (by rw [hAe]; exact puts_up List.Pairwise.nil)).imp (fun h => lt_ne h)) (fun z hz => by
        obtain ⟨y, hy, rfl⟩ := List.mem_map.1 hz
        rw [hAe, mem_puts (fun y hy => by cases hy)] at hy
        rcases hy with hy | ⟨hy, _⟩
        · cases hy
        · exact hy)
      rw [List.length_map] at h1
      have := HNN.out.1; omega
    | false =>
      rcases take_no hA with ⟨rfl, _⟩ | ⟨rfl, _⟩ <;> simp
  obtain ⟨na, hna⟩ : ∃ k, k = A.length := ⟨_, rfl⟩
  obtain ⟨M, wm, it, hM⟩ : ∃ zA wl is, takeH A b y two = (zA, wl, is) := ⟨_, _, _, rfl⟩
  have HAS := Lib.hid (And.intro hAs (And.intro hAl hna))
  rw [← hna] at K4 ⊢
  clear hAs hAl hna
  go_wp2_with fail
  refine (HTK.out.2 _ A b y _ K4.out.now.1 HAS.out.1 (by have := HAS.out.2.1; omega) K4.out.now.2).mono ?_
  intro e w5 hR
  obtain ⟨x5, c5, y5, d5, rfl, n5, m5⟩ := hR.sh
  rw [hM] at n5 m5 ⊢
  simp only at n5 m5 ⊢
  have K5 := Lib.hid (Kp.and (Kp.nsH n5) (Kp.fp (K4.out.now.2.then hR.fp)))
  clear hR n5 m5 K4
  cases is with
  | false =>
    go_wp2
    go_ret
    exact ⟨rfl, K5.out.now.2⟩
  | true =>
  cases it with
  | false =>
    go_wp2
    go_ret
    exact ⟨rfl, K5.out.now.2⟩
  | true =>
  have hB := both_of HNE.out.1 hA hM
  have hMs : HSp M := hB.rt.sp
  have hMl : M.length ≤ 400 := by
    have h1 : (M.map Hl.d).length ≤ (one ++ two).length := sub_len ((map_up hB.rt.up).imp (fun h => lt_ne h)) (fun z hz => by
      obtain ⟨y, hy, rfl⟩ := List.mem_map.1 hz
      rcases (hB.mem y).1 hy with ⟨h, _⟩ | ⟨h, _⟩
      · exact List.mem_append.2 (.inl h)
      · exact List.mem_append.2 (.inr h))
    rw [List.length_map, List.length_append] at h1
    have := HNN.out.1; have := HNN.out.2.1; omega
  have hu := hB.asks HNE.out.1 HNE.out.2.2
  have hv := hB.swap.asks (Ne.symm HNE.out.1) HNE.out.2.1
  by_cases hold : x < y ∨ y = x ∧ a < b
  · have hno : ¬ (y < x ∨ x = y ∧ b < a) := by omega
    rw [if_pos hold] at hu
    rw [if_neg hno] at hv
    obtain ⟨kA, hkA⟩ := hB.after HNE.out.1
    obtain ⟨kB, hkB⟩ := hB.swap.after (Ne.symm HNE.out.1)
    obtain ⟨nm, hnm⟩ : ∃ k, k = M.length := ⟨_, rfl⟩
    have hfr := fun t W (hW : NsH W (.slice x5 M.length c5) M) => Free_c _ M t W hW hMs (by omega)
    rw [← hnm] at K5 hfr ⊢
    have HQ := Lib.hid (And.intro hB.rt (And.intro hMl (And.intro hu (And.intro hv (And.intro hkA (And.intro hkB hfr))))))
    have HNM := Lib.hid (And.intro hMs hnm)
    clear hB hMs hMl hu hv hkA hkB hnm hfr hA hM
    go_wp2_with fail
    refine (HTK.out.2 _ M a x _ K5.out.now.1 HNM.out.1 HQ.out.2.1 K5.out.now.2).mono ?_
    intro e w6 hR
    obtain ⟨x6, c6, y6, d6, rfl, n6, m6⟩ := hR.sh
    rw [HQ.out.2.2.1] at n6 m6 ⊢
    simp only at n6 m6 ⊢
    have K6 := Lib.hid (Kp.and (Kp.nm m6) (K5.out.later hR.fp))
    clear hR n6 m6 K5
    go_wp2_with fail
    refine (HTK.out.1 _ M b y _ K6.out.now.2.1 HNM.out.1 HQ.out.2.1 K6.out.now.2.2).mono ?_
    intro e w7 hR
    obtain ⟨x7, c7, y7, d7, rfl, n7, m7⟩ := hR.sh
    rw [HQ.out.2.2.2.1] at n7 m7 ⊢
    simp only at n7 m7 ⊢
    have K7 := Lib.hid (Kp.and (Kp.nm m7) (K6.out.later hR.fp))
    clear hR n7 m7 K6
    simp only [List.length_cons, List.length_nil] at K7 ⊢
    obtain ⟨g, o, cc, e, hcell⟩ := K7.out.now.2.1.at (by simp)
    injection e with e1 e2 e3
    subst e1 e3
    clear e2
    have u0 := ((hcell 0 (by simp)).nm0)
    simp only [List.getElem_cons_zero] at u0
    clear hcell hno
    by_cases hxy : x < y
    · have s1 : (x < y) = True := eq_true hxy
      clear hxy hold
      go_wp2_with fail
      refine (HQ.out.2.2.2.2.2.2 b _ K7.out.now.2.2.1).mono ?_
      rintro e w8 ⟨v8, rfl, hH⟩
      have n8 := hH.own.ns
      have F8 := Lib.hid (K7.out.now.2.2.2.then hH.fp)
      have U8 := Lib.hid (hH.fp.cell u0 (fun h => h))
      clear hH
      have hfl : (freeH M b).length ≤ 400 := Nat.le_trans (List.length_filter_le _ _) HQ.out.2.1
      have HT9 := Lib.hid (HTK.out.2 _ (freeH M b) a x _ n8 (free_right b HQ.out.1).sp hfl F8.out)
      obtain ⟨x8, c8, rfl⟩ := n8.shape
      clear n8 hfl u0
      go_wp2_with fail
      refine HT9.out.mono ?_
      intro e w9 hR
      have hsh := hR.sh
      rw [HQ.out.2.2.2.2.1] at hsh
      simp only [List.length_nil] at hsh
      obtain ⟨x9, c9, y9, d9, rfl, _, _⟩ := hsh
      have F9 := Lib.hid (F8.out.then hR.fp)
      have u9 := hR.fp.cell U8.out (fun h => h)
      clear hR
      go_wp2
      go_ret
      exact ⟨rfl, F9.out⟩
    · have s1 : (x < y) = False := eq_false hxy
      have hyx : x = y ∧ a < b := by omega
      have s2 : (x == y) = true := beq_iff_eq.2 hyx.1
      have s3 : (x = y) = True := eq_true hyx.1
      have s4 : (a < b) = True := eq_true hyx.2
      clear hxy hold hyx
      go_wp2_with fail
      refine (HQ.out.2.2.2.2.2.2 b _ K7.out.now.2.2.1).mono ?_
      rintro e w8 ⟨v8, rfl, hH⟩
      have n8 := hH.own.ns
      have F8 := Lib.hid (K7.out.now.2.2.2.then hH.fp)
      have U8 := Lib.hid (hH.fp.cell u0 (fun h => h))
      clear hH
      have hfl : (freeH M b).length ≤ 400 := Nat.le_trans (List.length_filter_le _ _) HQ.out.2.1
      have HT9 := Lib.hid (HTK.out.2 _ (freeH M b) a x _ n8 (free_right b HQ.out.1).sp hfl F8.out)
      obtain ⟨x8, c8, rfl⟩ := n8.shape
      clear n8 hfl u0
      go_wp2_with fail
      refine HT9.out.mono ?_
      intro e w9 hR
      have hsh := hR.sh
      rw [HQ.out.2.2.2.2.1] at hsh
      simp only [List.length_nil] at hsh
      obtain ⟨x9, c9, y9, d9, rfl, _, _⟩ := hsh
      have F9 := Lib.hid (F8.out.then hR.fp)
      have u9 := hR.fp.cell U8.out (fun h => h)
      clear hR
      go_wp2
      go_ret
      exact ⟨rfl, F9.out⟩
  · have hno : y < x ∨ x = y ∧ b < a := by have := HNE.out.1; omega
    rw [if_neg hold] at hu
    rw [if_pos hno] at hv
    obtain ⟨kA, hkA⟩ := hB.after HNE.out.1
    obtain ⟨kB, hkB⟩ := hB.swap.after (Ne.symm HNE.out.1)
    obtain ⟨nm, hnm⟩ : ∃ k, k = M.length := ⟨_, rfl⟩
    have hfr := fun t W (hW : NsH W (.slice x5 M.length c5) M) => Free_c _ M t W hW hMs (by omega)
    rw [← hnm] at K5 hfr ⊢
    have HQ := Lib.hid (And.intro hB.rt (And.intro hMl (And.intro hu (And.intro hv (And.intro hkA (And.intro hkB hfr))))))
    have HNM := Lib.hid (And.intro hMs hnm)
    clear hB hMs hMl hu hv hkA hkB hnm hfr hA hM
    go_wp2_with fail
    refine (HTK.out.2 _ M a x _ K5.out.now.1 HNM.out.1 HQ.out.2.1 K5.out.now.2).mono ?_
    intro e w6 hR
    obtain ⟨x6, c6, y6, d6, rfl, n6, m6⟩ := hR.sh
    rw [HQ.out.2.2.1] at n6 m6 ⊢
    simp only at n6 m6 ⊢
    have K6 := Lib.hid (Kp.and (Kp.nm m6) (K5.out.later hR.fp))
    clear hR n6 m6 K5
    go_wp2_with fail
    refine (HTK.out.1 _ M b y _ K6.out.now.2.1 HNM.out.1 HQ.out.2.1 K6.out.now.2.2).mono ?_
    intro e w7 hR
    obtain ⟨x7, c7, y7, d7, rfl, n7, m7⟩ := hR.sh
    rw [HQ.out.2.2.2.1] at n7 m7 ⊢
    simp only at n7 m7 ⊢
    have K7 := Lib.hid (Kp.and (Kp.nm m7) (K6.out.later hR.fp))
    clear hR n7 m7 K6
    simp only [List.length_cons, List.length_nil] at K7 ⊢
    obtain ⟨g, o, cc, e, hcell⟩ := K7.out.now.1.at (by simp)
    injection e with e1 e2 e3
    subst e1 e3
    clear e2
    have u0 := ((hcell 0 (by simp)).nm0)
    simp only [List.getElem_cons_zero] at u0
    have s1 : (x < y) = False := eq_false (by omega)
    clear hcell hold
    by_cases hxy : x = y
    · have s2 : (x == y) = true := beq_iff_eq.2 hxy
      have s3 : (x = y) = True := eq_true hxy
      have s4 : (a < b) = False := eq_false (by omega)
      clear hxy hno
      go_wp2_with fail
      refine (HQ.out.2.2.2.2.2.2 a _ K7.out.now.2.2.1).mono ?_
      rintro e w8 ⟨v8, rfl, hH⟩
      have n8 := hH.own.ns
      have F8 := Lib.hid (K7.out.now.2.2.2.then hH.fp)
      have U8 := Lib.hid (hH.fp.cell u0 (fun h => h))
      clear hH
      have hfl : (freeH M a).length ≤ 400 := Nat.le_trans (List.length_filter_le _ _) HQ.out.2.1
      have HT9 := Lib.hid (HTK.out.1 _ (freeH M a) b y _ n8 (free_right a HQ.out.1).sp hfl F8.out)
      obtain ⟨x8, c8, rfl⟩ := n8.shape
      clear n8 hfl u0
      go_wp2_with fail
      refine HT9.out.mono ?_
      intro e w9 hR
      have hsh := hR.sh
      rw [HQ.out.2.2.2.2.2.1] at hsh
      simp only [List.length_nil] at hsh
      obtain ⟨x9, c9, y9, d9, rfl, _, _⟩ := hsh
      have F9 := Lib.hid (F8.out.then hR.fp)
      have u9 := hR.fp.cell U8.out (fun h => h)
      clear hR
      go_wp2
      go_ret
      exact ⟨rfl, F9.out⟩
    · have s2 : (x == y) = false := beq_eq_false_iff_ne.2 hxy
      have s3 : (x = y) = False := eq_false hxy
      clear hxy hno
      go_wp2_with fail
      refine (HQ.out.2.2.2.2.2.2 a _ K7.out.now.2.2.1).mono ?_
      rintro e w8 ⟨v8, rfl, hH⟩
      have n8 := hH.own.ns
      have F8 := Lib.hid (K7.out.now.2.2.2.then hH.fp)
      have U8 := Lib.hid (hH.fp.cell u0 (fun h => h))
      clear hH
      have hfl : (freeH M a).length ≤ 400 := Nat.le_trans (List.length_filter_le _ _) HQ.out.2.1
      have HT9 := Lib.hid (HTK.out.1 _ (freeH M a) b y _ n8 (free_right a HQ.out.1).sp hfl F8.out)
      obtain ⟨x8, c8, rfl⟩ := n8.shape
      clear n8 hfl u0
      go_wp2_with fail
      refine HT9.out.mono ?_
      intro e w9 hR
      have hsh := hR.sh
      rw [HQ.out.2.2.2.2.2.1] at hsh
      simp only [List.length_nil] at hsh
      obtain ⟨x9, c9, y9, d9, rfl, _, _⟩ := hsh
      have F9 := Lib.hid (F8.out.then hR.fp)
      have u9 := hR.fp.cell U8.out (fun h => h)
      clear hR
      go_wp2
      go_ret
      exact ⟨rfl, F9.out⟩
end Go.Proofs.Ytenaggleepoclaa
