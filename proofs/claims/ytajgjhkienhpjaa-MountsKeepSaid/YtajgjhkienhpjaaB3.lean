/- MountsApart: while a mount moves nothing in it, or that it is in, begins to move but it (gen_b3.py) -/
import Derived.Test.YtajgjhkienhpjaaBl
import Derived.Test.YtajgjhkienhpjaaBq
namespace Go.Proofs.Ytajgjhkienhpjaa
set_option maxRecDepth 20000
set_option linter.unusedVariables false
set_option linter.unusedSimpArgs false
open Go.RowKit Pm

/-- Valid mounts are short. -/
theorem Pm.RtM.szs {l : List Mt} (h : RtM l) : SzM l := ⟨by have := h.len; omega, fun x hx => by have := okP_len (okM_p (h.ok x hx)).1; omega⟩
set_option maxHeartbeats 8000000 in
theorem MountsApart_c (v : Value) (l : List Mt) (one two : Bs) (a b : Int) (w : World) (hv : NsM w v l) (hn : l.length ≤ 140737488355328) :
    Calls Try.prog 5 #[v, .string (B one), .string (B two), .int .i64 a, .int .i64 b] w fun e w' => e = .returned (.bool true) ∧ Fp Non w w' := by
  have hgr := fun W (f : Fp Non w W) => Great_c v l W (hv.non f) hn
  have hb1 := fun W (f : Fp Non w W) (h : SzM l) (hp : one.length ≤ 1000000) => Begin_c v l one a W (hv.non f) h hp
  have hb3 := fun W (f : Fp Non w W) (h : SzM l) (hp : two.length ≤ 1000000) => Begin_c v l two b W (hv.non f) h hp
  obtain ⟨ao, cap, rfl⟩ := hv.shape
  have hbw := bgW l one a
  generalize l.length = n at *
  obtain ⟨r1, hr1⟩ : ∃ r, bgn l one a = r := ⟨_, rfl⟩
  rw [hr1] at hb1 hbw
  have hap := fun h => apart (two := two) (b := b) (beg hbw h)
  obtain ⟨r3, hr3⟩ : ∃ r, bgn l two b = r := ⟨_, rfl⟩
  rw [hr3] at hb3 hap
  have hb2 := fun v W (hv : NsM W v r1.l) (h0 : r1.e = 0) (hp : two.length ≤ 1000000) => Begin_c v r1.l two b W hv (beg hbw h0).rt.szs hp
  obtain ⟨r2, hr2⟩ : ∃ r, bgn r1.l two b = r := ⟨_, rfl⟩
  rw [hr2] at hap hb2
  have hi1 := fun W (h1 : one.length ≤ 1000000) (h2 : two.length ≤ 1000000) => rIn_g one two W (sz_of h1 (by omega)) (sz_of h2 (by omega))
  have hi2 := fun W (h1 : one.length ≤ 1000000) (h2 : two.length ≤ 1000000) => rIn_g two one W (sz_of h2 (by omega)) (sz_of h1 (by omega))
  obtain ⟨x1, hx1⟩ : ∃ b, inB one two = b := ⟨_, rfl⟩
  obtain ⟨x2, hx2⟩ : ∃ b, inB two one = b := ⟨_, rfl⟩
  have hap2 : r1.e = 0 → (one = two → (r2.e = 0 ↔ a = b)) ∧ (one ≠ two → (x1 || x2) = true → r2.e = 131 ∨ r2.e = 1 ∨ (r2.e = 0 ∧ r3.e = 0)) ∧ (one ≠ two → (x1 || x2) = false → r2.e = r3.e ∨ r2.e = 2) := fun h => by
    have := hap h
    exact ⟨this.eq, by rw [← hx1, ← hx2]; exact this.near, by rw [← hx1, ← hx2]; exact this.far⟩
  rw [hx1] at hi1
  rw [hx2] at hi2
  have HG := Lib.hid hgr
  have HB1 := Lib.hid hb1
  have HB2 := Lib.hid hb2
  have HB3 := Lib.hid hb3
  have HAP := Lib.hid hap2
  have HI1 := Lib.hid hi1
  have HI2 := Lib.hid hi2
  clear hgr hb1 hb2 hb3 hap hap2 hi1 hi2 hx1 hx2 hr1 hr2 hr3 hbw hv hn
  go_enter Try.func5, Try.ntmps5
  go_wp2_with fail
  refine (head_c _).mono ?_
  rintro e w1 ⟨rfl, hf1⟩
  have F1 := Lib.hid hf1
  clear hf1
  go_wp2_with fail
  refine (HG.out _ F1.out).mono ?_
  rintro e w2 ⟨gr, rfl, hg, hf2⟩
  have F2 := Lib.hid (F1.out.then hf2)
  clear hf2 F1
  cases gr with
  | true =>
    clear hg
    go_wp2
    go_ret
    exact ⟨rfl, F2.out⟩
  | false =>
  have FEW := Lib.hid (hg rfl)
  clear hg
  by_cases hp0 : 1000 < one.length
  · have q10 : ((1000 : Int) < (one.length : Int)) = True := eq_true (by omega)
    have q20 : (1000 < one.length) = True := eq_true hp0
    clear hp0
    go_wp2
    go_ret
    exact ⟨rfl, F2.out⟩
  have q10 : ((1000 : Int) < (one.length : Int)) = False := eq_false (by omega)
  have q20 : (1000 < one.length) = False := eq_false hp0
  have HPB0 := Lib.hid (show one.length ≤ 1000000 by omega)
  clear hp0
  by_cases hp1 : 1000 < two.length
  · have q11 : ((1000 : Int) < (two.length : Int)) = True := eq_true (by omega)
    have q21 : (1000 < two.length) = True := eq_true hp1
    clear hp1
    go_wp2
    go_ret
    exact ⟨rfl, F2.out⟩
  have q11 : ((1000 : Int) < (two.length : Int)) = False := eq_false (by omega)
  have q21 : (1000 < two.length) = False := eq_false hp1
  have HPB1 := Lib.hid (show two.length ≤ 1000000 by omega)
  clear hp1
  go_wp2_with fail
  refine (HB1.out _ F2.out FEW.out.szs HPB0.out).mono ?_
  intro e w3 hR
  obtain ⟨v1, rfl, n1⟩ := hR.ex
  unfold mtV strV
  have hfa := fp_alloc w3 (.cells #[.string (B r1.m.d), .int .i64 r1.m.g, .int .i64 r1.m.e, .int .i64 r1.m.t] TM)
  have F3 := Lib.hid ((F2.out.then hR.fp).then hfa)
  have N3 := Lib.hid (n1.non hfa)
  clear hR n1 hfa F2
  by_cases h1 : ¬ r1.e = 0
  · have q3 : (r1.e == 0) = false := beq_eq_false_iff_ne.2 h1
    have q4 : (r1.e = 0) = False := eq_false h1
    have q5 : (r1.e != 0) = true := by simp [bne, q3]
    clear h1
    go_wp2
    go_ret
    exact ⟨rfl, F3.out⟩
  have h1 := Decidable.not_not.1 h1
  have q3 : (r1.e == 0) = true := beq_iff_eq.2 h1
  have q4 : (r1.e = 0) = True := eq_true h1
  have q5 : (r1.e != 0) = false := by simp [bne, q3]
  have H1 := Lib.hid h1
  have hap := HAP.out h1
  obtain ⟨f, hf⟩ : ∃ f, r2.e = f := ⟨_, rfl⟩
  obtain ⟨g, hg⟩ : ∃ g, r3.e = g := ⟨_, rfl⟩
  rw [hf, hg] at hap
  have HAP2 := Lib.hid hap
  have HFG := Lib.hid (And.intro hf hg)
  clear h1 hap HAP HB1 hf hg
  go_wp2_with fail
  refine (HB2.out _ _ N3.out H1.out HPB1.out).mono ?_
  intro e w4 hR
  obtain ⟨v2, rfl, n2⟩ := hR.ex
  rw [HFG.out.1]
  unfold mtV strV
  have hfa := fp_alloc w4 (.cells #[.string (B r2.m.d), .int .i64 r2.m.g, .int .i64 r2.m.e, .int .i64 r2.m.t] TM)
  have F4 := Lib.hid ((F3.out.then hR.fp).then hfa)
  clear hR n2 hfa F3 HB2 N3
  go_wp2_with fail
  refine (HB3.out _ F4.out FEW.out.szs HPB1.out).mono ?_
  intro e w5 hR
  obtain ⟨v3, rfl, n3⟩ := hR.ex
  rw [HFG.out.2]
  unfold mtV strV
  have hfa := fp_alloc w5 (.cells #[.string (B r3.m.d), .int .i64 r3.m.g, .int .i64 r3.m.e, .int .i64 r3.m.t] TM)
  have F5 := Lib.hid ((F4.out.then hR.fp).then hfa)
  clear hR n3 hfa F4 HB3 HFG
  go_wp2_with fail
  refine (HI1.out _ HPB0.out HPB1.out).mono ?_
  rintro e w6 ⟨rfl, hg⟩
  have F6 := Lib.hid (F5.out.then hg.fp)
  clear hg F5 HI1
  cases x1 with
  | true =>
    by_cases hot : one = two
    · have q6 : (one == two) = true := beq_iff_eq.2 hot
      have q7 : (one = two) = True := eq_true hot
      have hh := HAP2.out.1 hot
      by_cases hab : a = b
      · have q8 : (a == b) = true := beq_iff_eq.2 hab
        have hf0 := hh.2 hab
        clear hh hot hab
        subst hf0
        go_wp2
        go_ret
        exact ⟨rfl, F6.out⟩
      · have q8 : (a == b) = false := beq_eq_false_iff_ne.2 hab
        have q9 : (f == 0) = false := beq_eq_false_iff_ne.2 (fun h => hab (hh.1 h))
        clear hh hot hab
        go_wp2
        go_ret
        exact ⟨rfl, F6.out⟩
    have q6 : (one == two) = false := beq_eq_false_iff_ne.2 hot
    have q7 : (one = two) = False := eq_false hot
    have hh := HAP2.out.2.1 hot (by rfl)
    clear hot
    rcases hh with hh | hh | ⟨hh, hh2⟩
    · subst hh
      go_wp2
      go_ret
      exact ⟨rfl, F6.out⟩
    · subst hh
      go_wp2
      go_ret
      exact ⟨rfl, F6.out⟩
    · subst hh hh2
      go_wp2
      go_ret
      exact ⟨rfl, F6.out⟩
  | false =>
  go_wp2_with fail
  refine (HI2.out _ HPB0.out HPB1.out).mono ?_
  rintro e w7 ⟨rfl, hg⟩
  have F7 := Lib.hid (F6.out.then hg.fp)
  clear hg F6 HI2
  cases x2 with
  | true =>
    by_cases hot : one = two
    · have q6 : (one == two) = true := beq_iff_eq.2 hot
      have q7 : (one = two) = True := eq_true hot
      have hh := HAP2.out.1 hot
      by_cases hab : a = b
      · have q8 : (a == b) = true := beq_iff_eq.2 hab
        have hf0 := hh.2 hab
        clear hh hot hab
        subst hf0
        go_wp2
        go_ret
        exact ⟨rfl, F7.out⟩
      · have q8 : (a == b) = false := beq_eq_false_iff_ne.2 hab
        have q9 : (f == 0) = false := beq_eq_false_iff_ne.2 (fun h => hab (hh.1 h))
        clear hh hot hab
        go_wp2
        go_ret
        exact ⟨rfl, F7.out⟩
    have q6 : (one == two) = false := beq_eq_false_iff_ne.2 hot
    have q7 : (one = two) = False := eq_false hot
    have hh := HAP2.out.2.1 hot (by rfl)
    clear hot
    rcases hh with hh | hh | ⟨hh, hh2⟩
    · subst hh
      go_wp2
      go_ret
      exact ⟨rfl, F7.out⟩
    · subst hh
      go_wp2
      go_ret
      exact ⟨rfl, F7.out⟩
    · subst hh hh2
      go_wp2
      go_ret
      exact ⟨rfl, F7.out⟩
  | false =>
    by_cases hot : one = two
    · have q6 : (one == two) = true := beq_iff_eq.2 hot
      have q7 : (one = two) = True := eq_true hot
      have hh := HAP2.out.1 hot
      by_cases hab : a = b
      · have q8 : (a == b) = true := beq_iff_eq.2 hab
        have hf0 := hh.2 hab
        clear hh hot hab
        subst hf0
        go_wp2
        go_ret
        exact ⟨rfl, F7.out⟩
      · have q8 : (a == b) = false := beq_eq_false_iff_ne.2 hab
        have q9 : (f == 0) = false := beq_eq_false_iff_ne.2 (fun h => hab (hh.1 h))
        clear hh hot hab
        go_wp2
        go_ret
        exact ⟨rfl, F7.out⟩
    have q6 : (one == two) = false := beq_eq_false_iff_ne.2 hot
    have q7 : (one = two) = False := eq_false hot
    have hh := HAP2.out.2.2 hot (by rfl)
    clear hot
    rcases hh with hh | hh
    · subst hh
      have q8 : (f == f) = true := beq_self_eq_true f
      go_wp2
      go_ret
      exact ⟨rfl, F7.out⟩
    · subst hh
      by_cases hg : 2 = g
      · subst hg
        go_wp2
        go_ret
        exact ⟨rfl, F7.out⟩
      · have q8 : ((2 : Int) == g) = false := beq_eq_false_iff_ne.2 hg
        clear hg
        go_wp2
        go_ret
        exact ⟨rfl, F7.out⟩
end Go.Proofs.Ytajgjhkienhpjaa
