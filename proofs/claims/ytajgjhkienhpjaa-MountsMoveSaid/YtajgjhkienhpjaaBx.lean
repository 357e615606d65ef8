/- The document's Right of mounts (gen_bx.py) -/
import Derived.Test.YtajgjhkienhpjaaBk
import Derived.Test.YtajgjhkienhpjaaRc
namespace Go.Proofs.Ytajgjhkienhpjaa
set_option maxRecDepth 20000
set_option linter.unusedVariables false
set_option linter.unusedSimpArgs false
open Go.RowKit Pm

set_option maxHeartbeats 400000 in
theorem rGroup_c (n : Int) (w : World) : Calls Try.prog 21 #[.int .i64 n] w fun e w' => e = .returned (.bool (okG n)) ∧ w' = w := by
  by_cases h0 : 0 ≤ n
  · have q1 : ((0 : Int) ≤ n) = True := eq_true h0
    by_cases h1 : n < 4
    · have q2 : (n < 4) = True := eq_true h1
      have e : okG n = true := decide_eq_true ⟨h0, h1⟩
      rw [e]
      clear h0 h1 e
      go_enter Try.func21, Try.ntmps21
      go_wp2
      go_ret
      exact ⟨rfl, rfl⟩
    · have q2 : (n < 4) = False := eq_false h1
      have e : okG n = false := decide_eq_false (fun h => h1 h.2)
      rw [e]
      clear h0 h1 e
      go_enter Try.func21, Try.ntmps21
      go_wp2
      go_ret
      exact ⟨rfl, rfl⟩
  · have q1 : ((0 : Int) ≤ n) = False := eq_false h0
    have e : okG n = false := decide_eq_false (fun h => h0 h.1)
    rw [e]
    clear h0 e
    go_enter Try.func21, Try.ntmps21
    go_wp2
    go_ret
    exact ⟨rfl, rfl⟩
set_option maxHeartbeats 16000000 in
theorem rRightM_c (v : Value) (l : List Mt) (w : World) (hv : NsM w v l) (hs : ∀ x ∈ l, x.d.length ≤ 1000000) (hn : l.length ≤ 140737488355328) :
    Calls Try.prog 10 #[v] w fun e w' => e = .returned (.bool (rightM l)) ∧ Fp Non w w' := by
  obtain ⟨ao, cap, rfl⟩ := hv.shape
  obtain ⟨n, hnn⟩ : ∃ n, n = l.length := ⟨_, rfl⟩
  obtain ⟨r, hr⟩ : ∃ r, rightM l = r := ⟨_, rfl⟩
  have hno : ¬ RtM l → r = false := fun h => by
    cases e : r with
    | false => rfl
    | true => rw [e] at hr; exact absurd ((right_iff l).1 hr) h
  have HNone := Lib.hid (show ∀ k (hk : k < l.length), ¬ ChkM l k hk → r = false from fun k hk h => hno (fun c => h (chkM_right c k hk)))
  have HYes := Lib.hid (show RtM l → r = true from fun h => by rw [← hr]; exact (right_iff l).2 h)
  have HLong := Lib.hid (show 32 < l.length → r = false from fun h => hno (fun c => by have := c.len; omega))
  have HEmpty := Lib.hid (show l.length = 0 → r = false from fun h => hno (fun c => by have := c.pos; omega))
  have HRoot := Lib.hid (show ∀ h : 0 < l.length, l[0].d ≠ [47] → r = false from fun h e => hno (fun c => by obtain ⟨x, r, rfl, h2⟩ := c.root; exact e h2))
  have HX := Lib.hid (And.intro hnn (And.intro hv hs))
  rw [hr, ← hnn]
  have hnb : n ≤ 140737488355328 := by omega
  clear hv hs hn hnn hr hno
  go_enter Try.func10, Try.ntmps10
  by_cases h00 : n = 0
  · have HE := Lib.hid (HEmpty.out (by rw [← HX.out.1]; exact h00))
    subst h00
    go_wp2
    go_ret
    exact ⟨ret_bool HE.out.symm, Fp.refl _ _⟩
  have q01 : ((n : Int) < 1) = False := eq_false (by omega)
  have q02 : (n < 1) = False := eq_false (by omega)
  by_cases h32 : 32 < n
  · have q1 : ((32 : Int) < (n : Int)) = True := eq_true (by omega)
    have q2 : (32 < n) = True := eq_true h32
    have HE := Lib.hid (HLong.out (by rw [← HX.out.1]; exact h32))
    clear h32 h00
    go_wp2
    go_ret
    exact ⟨ret_bool HE.out.symm, Fp.refl _ _⟩
  have q1 : ((32 : Int) < (n : Int)) = False := eq_false (by omega)
  have q2 : (32 < n) = False := eq_false h32
  have qp1 : ((0 : Int) < (n : Int)) = True := eq_true (by omega)
  have qp2 : (0 < n) = True := eq_true (by omega)
  have H32 := Lib.hid (And.intro h32 h00)
  have h0l : 0 < l.length := by rw [← HX.out.1]; omega
  obtain ⟨g0, o0, cap0, e0, _, _, _, hcell0⟩ := HX.out.2.1.at h0l
  injection e0 with e1 e2 e3
  subst e1 e3
  have z0 := (hcell0 0 h0l).c0
  rw [Nat.zero_mul, Nat.add_zero] at z0
  have hroot := HRoot.out h0l
  obtain ⟨d0, hd0⟩ : ∃ d, d = (l[0]).d := ⟨_, rfl⟩
  rw [← hd0] at z0 hroot
  unfold strV at z0
  by_cases hrt : ¬ d0 = [47]
  · have HE := Lib.hid (hroot hrt)
    have qr : (d0 == [47]) = false := beq_eq_false_iff_ne.2 hrt
    have qr2 : (d0 = [47]) = False := eq_false hrt
    clear h32 h00 hroot hd0 hcell0 h0l hrt e2
    go_wp2
    go_ret
    exact ⟨ret_bool HE.out.symm, Fp.refl _ _⟩
  have hrt := Decidable.not_not.1 hrt
  have HRT := Lib.hid (show ∃ h : 0 < l.length, l[0].d = [47] from ⟨h0l, by rw [← hd0]; exact hrt⟩)
  subst hrt
  clear h32 h00 hroot hd0 hcell0 h0l e2
  go_wp2_with fail
  clear z0
  go_loopw [3] (fun i wr => ∃ k : Nat, k ≤ n ∧ i = .int .i64 k ∧ Hid (Fp Non w wr ∧ ∀ j (hj : j < l.length), j < k → ChkM l j hj)) (fun i _ => n - (RowKit.intOf i).toNat)
  case atStart => exact ⟨0, Nat.zero_le _, rfl, Fp.refl _ _, fun j _ h => absurd h (Nat.not_lt_zero j)⟩
  case round =>
    obtain ⟨k, hk, rfl, hR⟩ := hrel
    rename_i wr _
    by_cases hlt : k < n
    · have hkl : k < l.length := by rw [← HX.out.1]; exact hlt
      obtain ⟨g, o, cap', e, _, _, _, hcell⟩ := HX.out.2.1.at (by omega)
      injection e with e1 e2 e3
      injection e1 with e1
      injection e1 with e4 e5
      subst e4 e5 e3
      clear e2
      have f0 := hR.out.1
      have hnd := (hcell k hkl).keep f0 (fun h => h)
      obtain ⟨x, hx⟩ : ∃ x, x = l[k] := ⟨_, rfl⟩
      rw [← hx] at hnd
      have c0 := hnd.c0; have c1 := hnd.c1; have c2 := hnd.c2; have c3 := hnd.c3
      unfold strV at c0
      have q3 : ((k : Int) < (n : Int)) = True := eq_true (by omega)
      have q4 : (k < n) = True := eq_true hlt
      have hxp : x.d.length ≤ 1000000 := HX.out.2.2 x (by rw [hx]; exact List.getElem_mem hkl)
      have hfc := fun w => rRight_g x.d w (sz_of hxp (by omega))
      have hg1 := fun w => rGroup_c x.g w
      have hg2 := fun w => rGroup_c x.t w
      have hbb := bxM wr x
      have HB := Lib.hid (And.intro (((Fp.refl Non wr).alloc (Obj.cells #[.string (B x.d), .int .i64 x.g, .int .i64 x.e, .int .i64 x.t] TM)).drew) hbb)
      have HW := Lib.hid (f0)
      have HK := Lib.hid hlt
      have hpc : ∀ k', k' < l.length → ∃ z, (wr.alloc (Obj.cells #[.string (B x.d), .int .i64 x.g, .int .i64 x.e, .int .i64 x.t] TM)).drew.cell? ⟨g0, o0 + k' * 4, none⟩ = some (.string (B z)) ∧ ∀ h : k' < l.length, z = (l[k']).d := fun k' h => ⟨_, HB.out.1.cell ((hcell k' h).keep f0 (fun h => h)).c0 (fun h => h), fun _ => rfl⟩
      have hold := hR.out.2
      have hstep : okM x = true → (0 < k → ∀ h : k - 1 < l.length, lt (l[k-1]).d x.d = true) → ∀ j (hj : j < l.length), j < k + 1 → ChkM l j hj := fun a b j hj hjk => by
        rcases Nat.lt_or_eq_of_le (show j ≤ k by omega) with e | e
        · exact hold j hj e
        · subst e; exact ⟨by rw [← hx]; exact a, fun h0 h1 => by rw [← hx]; exact b h0 h1⟩
      have hno : (okM x = false ∨ (0 < k ∧ ∃ h : k - 1 < l.length, lt (l[k-1]).d x.d = false)) → r = false := fun h => HNone.out k hkl (fun c => by
        rcases h with h | ⟨h0, h1, h2⟩
        · have := c.1; rw [← hx, h] at this; cases this
        · have := c.2 h0 h1; rw [← hx, h2] at this; cases this)
      obtain ⟨b0, hb0⟩ : ∃ b, (split x.d).isSome = b := ⟨_, rfl⟩
      obtain ⟨b1, hb1⟩ : ∃ b, okG x.g = b := ⟨_, rfl⟩
      obtain ⟨b2, hb2⟩ : ∃ b, okG x.t = b := ⟨_, rfl⟩
      obtain ⟨fx, hfx⟩ : ∃ b, okM x = b := ⟨_, rfl⟩
      have hoe : fx = (b0 && b1 && b2 && decide (0 ≤ x.e ∧ x.e ≤ 281474976710656)) := by rw [← hfx, ← hb0, ← hb1, ← hb2]; rfl
      rw [hb0] at hfc
      rw [hb1] at hg1
      rw [hb2] at hg2
      rw [hfx] at hstep hno
      have HOE := Lib.hid hoe
      have HG1 := Lib.hid hg1
      have HG2 := Lib.hid hg2
      clear hb0 hb1 hb2 hoe hg1 hg2
      have HFC := Lib.hid hfc
      have HST := Lib.hid (And.intro hstep (And.intro hno (And.intro hpc hkl)))
      clear hfc hbb hpc hold hstep hno hfx hxp hx hnd hcell f0
      cases b0 with
      | false =>
        have HNO := Lib.hid (HST.out.2.1 (.inl (by rw [HOE.out]; rfl)))
        clear hkl hlt hk
        go_wp2_with fail
        refine wp_region_held_drew (S := (fun w' => w'.cell? ⟨wr.heap.size, 0, none⟩ = some (.string (B x.d)) ∧ w'.cell? ⟨wr.heap.size, 1, none⟩ = some (.int .i64 x.g) ∧ w'.cell? ⟨wr.heap.size, 2, none⟩ = some (.int .i64 x.e) ∧ w'.cell? ⟨wr.heap.size, 3, none⟩ = some (.int .i64 x.t))) (by kernel_rfl) ?_ (fun hHeld => ?_)
        · exact ⟨HB.out.2.c0, HB.out.2.c1, HB.out.2.c2, HB.out.2.c3⟩
        try simp only [zP, zN, zS, zT, zU]
        refine tk 0 hHeld ?_
        refine tk 1 hHeld ?_
        refine rY 2 (fun K hK => ?_)
        go_simp
        go_at_call 11
        refine (HFC.out _).mono ?_
        rintro e w1 ⟨rfl, g1⟩
        have f1 := g1.fp
        have b1 := HB.out.2.keep f1 (fun h => h)
        have HS1 := Lib.hid (And.intro b1.c0 (And.intro b1.c1 (And.intro b1.c2 b1.c3)))
        have F := Lib.hid (HB.out.1.then f1)
        clear f1 b1 g1
        go_wp2_with fail
        refine hK.out _ _ HS1.out (fun hHeld => ?_)
        clear hK K
        try simp only [zP, zN, zS, zT, zU]
        refine tk 3 hHeld ?_
        refine tk 4 hHeld ?_
        refine sk 5 hHeld ?_
        refine sk 6 hHeld ?_
        refine sk 7 hHeld ?_
        refine sk 8 hHeld ?_
        refine tk 9 hHeld ?_
        refine tk 10 hHeld ?_
        refine sk 11 hHeld ?_
        refine sk 12 hHeld ?_
        refine sk 13 hHeld ?_
        refine sk 14 hHeld ?_
        refine tk 15 hHeld ?_
        refine tk 16 hHeld ?_
        refine sk 17 hHeld ?_
        refine sk 18 hHeld ?_
        refine sk 19 hHeld ?_
        refine tk 20 hHeld ?_
        refine tk 21 hHeld ?_
        refine sk 22 hHeld ?_
        refine sk 23 hHeld ?_
        refine sk 24 hHeld ?_
        refine tk 25 hHeld ?_
        refine tk 26 hHeld ?_
        refine sk 27 hHeld ?_
        refine sk 28 hHeld ?_
        refine sk 29 hHeld ?_
        refine sk 30 hHeld ?_
        refine sk 31 hHeld ?_
        refine sk 32 hHeld ?_
        refine sk 33 hHeld ?_
        refine sk 34 hHeld ?_
        refine sk 35 hHeld ?_
        refine sk 36 hHeld ?_
        refine sk 37 hHeld ?_
        refine sk 38 hHeld ?_
        refine sk 39 hHeld ?_
        refine tk 40 hHeld ?_
        refine yD ?_
        go_wp2
        go_ret
        exact ⟨ret_bool HNO.out.symm, HW.out.then F.out⟩
      | true =>
      cases b1 with
      | false =>
        have HNO := Lib.hid (HST.out.2.1 (.inl (by rw [HOE.out]; rfl)))
        clear hkl hlt hk
        go_wp2_with fail
        refine wp_region_held_drew (S := (fun w' => w'.cell? ⟨wr.heap.size, 0, none⟩ = some (.string (B x.d)) ∧ w'.cell? ⟨wr.heap.size, 1, none⟩ = some (.int .i64 x.g) ∧ w'.cell? ⟨wr.heap.size, 2, none⟩ = some (.int .i64 x.e) ∧ w'.cell? ⟨wr.heap.size, 3, none⟩ = some (.int .i64 x.t))) (by kernel_rfl) ?_ (fun hHeld => ?_)
        · exact ⟨HB.out.2.c0, HB.out.2.c1, HB.out.2.c2, HB.out.2.c3⟩
        try simp only [zP, zN, zS, zT, zU]
        refine tk 0 hHeld ?_
        refine tk 1 hHeld ?_
        refine rY 2 (fun K hK => ?_)
        go_simp
        go_at_call 11
        refine (HFC.out _).mono ?_
        rintro e w1 ⟨rfl, g1⟩
        have f1 := g1.fp
        have b1 := HB.out.2.keep f1 (fun h => h)
        have HS1 := Lib.hid (And.intro b1.c0 (And.intro b1.c1 (And.intro b1.c2 b1.c3)))
        have F := Lib.hid (HB.out.1.then f1)
        clear f1 b1 g1
        go_wp2_with fail
        refine hK.out _ _ HS1.out (fun hHeld => ?_)
        clear hK K
        try simp only [zP, zN, zS, zT, zU]
        refine tk 3 hHeld ?_
        refine tk 4 hHeld ?_
        refine tk 5 hHeld ?_
        refine tk 6 hHeld ?_
        refine rY 7 (fun K hK => ?_)
        go_simp
        go_at_call 21
        refine (HG1.out _).mono ?_
        rintro e w2 ⟨rfl, rfl⟩
        go_wp2_with fail
        refine hK.out _ _ HS1.out (fun hHeld => ?_)
        clear hK K
        try simp only [zP, zN, zS, zT, zU]
        refine tk 8 hHeld ?_
        refine tk 9 hHeld ?_
        refine tk 10 hHeld ?_
        refine sk 11 hHeld ?_
        refine sk 12 hHeld ?_
        refine sk 13 hHeld ?_
        refine sk 14 hHeld ?_
        refine tk 15 hHeld ?_
        refine tk 16 hHeld ?_
        refine sk 17 hHeld ?_
        refine sk 18 hHeld ?_
        refine sk 19 hHeld ?_
        refine tk 20 hHeld ?_
        refine tk 21 hHeld ?_
        refine sk 22 hHeld ?_
        refine sk 23 hHeld ?_
        refine sk 24 hHeld ?_
        refine tk 25 hHeld ?_
        refine tk 26 hHeld ?_
        refine sk 27 hHeld ?_
        refine sk 28 hHeld ?_
        refine sk 29 hHeld ?_
        refine sk 30 hHeld ?_
        refine sk 31 hHeld ?_
        refine sk 32 hHeld ?_
        refine sk 33 hHeld ?_
        refine sk 34 hHeld ?_
        refine sk 35 hHeld ?_
        refine sk 36 hHeld ?_
        refine sk 37 hHeld ?_
        refine sk 38 hHeld ?_
        refine sk 39 hHeld ?_
        refine tk 40 hHeld ?_
        refine yD ?_
        go_wp2
        go_ret
        exact ⟨ret_bool HNO.out.symm, HW.out.then F.out⟩
      | true =>
      cases b2 with
      | false =>
        have HNO := Lib.hid (HST.out.2.1 (.inl (by rw [HOE.out]; rfl)))
        clear hkl hlt hk
        go_wp2_with fail
        refine wp_region_held_drew (S := (fun w' => w'.cell? ⟨wr.heap.size, 0, none⟩ = some (.string (B x.d)) ∧ w'.cell? ⟨wr.heap.size, 1, none⟩ = some (.int .i64 x.g) ∧ w'.cell? ⟨wr.heap.size, 2, none⟩ = some (.int .i64 x.e) ∧ w'.cell? ⟨wr.heap.size, 3, none⟩ = some (.int .i64 x.t))) (by kernel_rfl) ?_ (fun hHeld => ?_)
        · exact ⟨HB.out.2.c0, HB.out.2.c1, HB.out.2.c2, HB.out.2.c3⟩
        try simp only [zP, zN, zS, zT, zU]
        refine tk 0 hHeld ?_
        refine tk 1 hHeld ?_
        refine rY 2 (fun K hK => ?_)
        go_simp
        go_at_call 11
        refine (HFC.out _).mono ?_
        rintro e w1 ⟨rfl, g1⟩
        have f1 := g1.fp
        have b1 := HB.out.2.keep f1 (fun h => h)
        have HS1 := Lib.hid (And.intro b1.c0 (And.intro b1.c1 (And.intro b1.c2 b1.c3)))
        have F := Lib.hid (HB.out.1.then f1)
        clear f1 b1 g1
        go_wp2_with fail
        refine hK.out _ _ HS1.out (fun hHeld => ?_)
        clear hK K
        try simp only [zP, zN, zS, zT, zU]
        refine tk 3 hHeld ?_
        refine tk 4 hHeld ?_
        refine tk 5 hHeld ?_
        refine tk 6 hHeld ?_
        refine rY 7 (fun K hK => ?_)
        go_simp
        go_at_call 21
        refine (HG1.out _).mono ?_
        rintro e w2 ⟨rfl, rfl⟩
        go_wp2_with fail
        refine hK.out _ _ HS1.out (fun hHeld => ?_)
        clear hK K
        try simp only [zP, zN, zS, zT, zU]
        refine tk 8 hHeld ?_
        refine tk 9 hHeld ?_
        refine tk 10 hHeld ?_
        refine tk 11 hHeld ?_
        refine tk 12 hHeld ?_
        refine rY 13 (fun K hK => ?_)
        go_simp
        go_at_call 21
        refine (HG2.out _).mono ?_
        rintro e w2 ⟨rfl, rfl⟩
        go_wp2_with fail
        refine hK.out _ _ HS1.out (fun hHeld => ?_)
        clear hK K
        try simp only [zP, zN, zS, zT, zU]
        refine tk 14 hHeld ?_
        refine tk 15 hHeld ?_
        refine tk 16 hHeld ?_
        refine sk 17 hHeld ?_
        refine sk 18 hHeld ?_
        refine sk 19 hHeld ?_
        refine tk 20 hHeld ?_
        refine tk 21 hHeld ?_
        refine sk 22 hHeld ?_
        refine sk 23 hHeld ?_
        refine sk 24 hHeld ?_
        refine tk 25 hHeld ?_
        refine tk 26 hHeld ?_
        refine sk 27 hHeld ?_
        refine sk 28 hHeld ?_
        refine sk 29 hHeld ?_
        refine sk 30 hHeld ?_
        refine sk 31 hHeld ?_
        refine sk 32 hHeld ?_
        refine sk 33 hHeld ?_
        refine sk 34 hHeld ?_
        refine sk 35 hHeld ?_
        refine sk 36 hHeld ?_
        refine sk 37 hHeld ?_
        refine sk 38 hHeld ?_
        refine sk 39 hHeld ?_
        refine tk 40 hHeld ?_
        refine yD ?_
        go_wp2
        go_ret
        exact ⟨ret_bool HNO.out.symm, HW.out.then F.out⟩
      | true =>
        by_cases ht0 : x.e < 0
        · have HNO := Lib.hid (HST.out.2.1 (.inl (by rw [HOE.out]; simp; omega)))
          have r1 : (x.e < 0) = True := eq_true ht0
          clear hkl hlt hk ht0
          go_wp2_with fail
          refine wp_region_held_drew (S := (fun w' => w'.cell? ⟨wr.heap.size, 0, none⟩ = some (.string (B x.d)) ∧ w'.cell? ⟨wr.heap.size, 1, none⟩ = some (.int .i64 x.g) ∧ w'.cell? ⟨wr.heap.size, 2, none⟩ = some (.int .i64 x.e) ∧ w'.cell? ⟨wr.heap.size, 3, none⟩ = some (.int .i64 x.t))) (by kernel_rfl) ?_ (fun hHeld => ?_)
          · exact ⟨HB.out.2.c0, HB.out.2.c1, HB.out.2.c2, HB.out.2.c3⟩
          try simp only [zP, zN, zS, zT, zU]
          refine tk 0 hHeld ?_
          refine tk 1 hHeld ?_
          refine rY 2 (fun K hK => ?_)
          go_simp
          go_at_call 11
          refine (HFC.out _).mono ?_
          rintro e w1 ⟨rfl, g1⟩
          have f1 := g1.fp
          have b1 := HB.out.2.keep f1 (fun h => h)
          have HS1 := Lib.hid (And.intro b1.c0 (And.intro b1.c1 (And.intro b1.c2 b1.c3)))
          have F := Lib.hid (HB.out.1.then f1)
          clear f1 b1 g1
          go_wp2_with fail
          refine hK.out _ _ HS1.out (fun hHeld => ?_)
          clear hK K
          try simp only [zP, zN, zS, zT, zU]
          refine tk 3 hHeld ?_
          refine tk 4 hHeld ?_
          refine tk 5 hHeld ?_
          refine tk 6 hHeld ?_
          refine rY 7 (fun K hK => ?_)
          go_simp
          go_at_call 21
          refine (HG1.out _).mono ?_
          rintro e w2 ⟨rfl, rfl⟩
          go_wp2_with fail
          refine hK.out _ _ HS1.out (fun hHeld => ?_)
          clear hK K
          try simp only [zP, zN, zS, zT, zU]
          refine tk 8 hHeld ?_
          refine tk 9 hHeld ?_
          refine tk 10 hHeld ?_
          refine tk 11 hHeld ?_
          refine tk 12 hHeld ?_
          refine rY 13 (fun K hK => ?_)
          go_simp
          go_at_call 21
          refine (HG2.out _).mono ?_
          rintro e w2 ⟨rfl, rfl⟩
          go_wp2_with fail
          refine hK.out _ _ HS1.out (fun hHeld => ?_)
          clear hK K
          try simp only [zP, zN, zS, zT, zU]
          refine tk 14 hHeld ?_
          refine tk 15 hHeld ?_
          refine tk 16 hHeld ?_
          refine tk 17 hHeld ?_
          refine tk 18 hHeld ?_
          refine tk 19 hHeld ?_
          refine tk 20 hHeld ?_
          refine tk 21 hHeld ?_
          refine sk 22 hHeld ?_
          refine sk 23 hHeld ?_
          refine sk 24 hHeld ?_
          refine tk 25 hHeld ?_
          refine tk 26 hHeld ?_
          refine sk 27 hHeld ?_
          refine sk 28 hHeld ?_
          refine sk 29 hHeld ?_
          refine sk 30 hHeld ?_
          refine sk 31 hHeld ?_
          refine sk 32 hHeld ?_
          refine sk 33 hHeld ?_
          refine sk 34 hHeld ?_
          refine sk 35 hHeld ?_
          refine sk 36 hHeld ?_
          refine sk 37 hHeld ?_
          refine sk 38 hHeld ?_
          refine sk 39 hHeld ?_
          refine tk 40 hHeld ?_
          refine yD ?_
          go_wp2
          go_ret
          exact ⟨ret_bool HNO.out.symm, HW.out.then F.out⟩
        have r1 : (x.e < 0) = False := eq_false ht0
        by_cases ht1 : 281474976710656 < x.e
        · have HNO := Lib.hid (HST.out.2.1 (.inl (by rw [HOE.out]; simp; omega)))
          have r2 : ((281474976710656 : Int) < x.e) = True := eq_true ht1
          clear hkl hlt hk ht0 ht1
          go_wp2_with fail
          refine wp_region_held_drew (S := (fun w' => w'.cell? ⟨wr.heap.size, 0, none⟩ = some (.string (B x.d)) ∧ w'.cell? ⟨wr.heap.size, 1, none⟩ = some (.int .i64 x.g) ∧ w'.cell? ⟨wr.heap.size, 2, none⟩ = some (.int .i64 x.e) ∧ w'.cell? ⟨wr.heap.size, 3, none⟩ = some (.int .i64 x.t))) (by kernel_rfl) ?_ (fun hHeld => ?_)
          · exact ⟨HB.out.2.c0, HB.out.2.c1, HB.out.2.c2, HB.out.2.c3⟩
          try simp only [zP, zN, zS, zT, zU]
          refine tk 0 hHeld ?_
          refine tk 1 hHeld ?_
          refine rY 2 (fun K hK => ?_)
          go_simp
          go_at_call 11
          refine (HFC.out _).mono ?_
          rintro e w1 ⟨rfl, g1⟩
          have f1 := g1.fp
          have b1 := HB.out.2.keep f1 (fun h => h)
          have HS1 := Lib.hid (And.intro b1.c0 (And.intro b1.c1 (And.intro b1.c2 b1.c3)))
          have F := Lib.hid (HB.out.1.then f1)
          clear f1 b1 g1
          go_wp2_with fail
          refine hK.out _ _ HS1.out (fun hHeld => ?_)
          clear hK K
          try simp only [zP, zN, zS, zT, zU]
          refine tk 3 hHeld ?_
          refine tk 4 hHeld ?_
          refine tk 5 hHeld ?_
          refine tk 6 hHeld ?_
          refine rY 7 (fun K hK => ?_)
          go_simp
          go_at_call 21
          refine (HG1.out _).mono ?_
          rintro e w2 ⟨rfl, rfl⟩
          go_wp2_with fail
          refine hK.out _ _ HS1.out (fun hHeld => ?_)
          clear hK K
          try simp only [zP, zN, zS, zT, zU]
          refine tk 8 hHeld ?_
          refine tk 9 hHeld ?_
          refine tk 10 hHeld ?_
          refine tk 11 hHeld ?_
          refine tk 12 hHeld ?_
          refine rY 13 (fun K hK => ?_)
          go_simp
          go_at_call 21
          refine (HG2.out _).mono ?_
          rintro e w2 ⟨rfl, rfl⟩
          go_wp2_with fail
          refine hK.out _ _ HS1.out (fun hHeld => ?_)
          clear hK K
          try simp only [zP, zN, zS, zT, zU]
          refine tk 14 hHeld ?_
          refine tk 15 hHeld ?_
          refine tk 16 hHeld ?_
          refine tk 17 hHeld ?_
          refine tk 18 hHeld ?_
          refine tk 19 hHeld ?_
          refine tk 20 hHeld ?_
          refine tk 21 hHeld ?_
          refine tk 22 hHeld ?_
          refine tk 23 hHeld ?_
          refine tk 24 hHeld ?_
          refine tk 25 hHeld ?_
          refine tk 26 hHeld ?_
          refine sk 27 hHeld ?_
          refine sk 28 hHeld ?_
          refine sk 29 hHeld ?_
          refine sk 30 hHeld ?_
          refine sk 31 hHeld ?_
          refine sk 32 hHeld ?_
          refine sk 33 hHeld ?_
          refine sk 34 hHeld ?_
          refine sk 35 hHeld ?_
          refine sk 36 hHeld ?_
          refine sk 37 hHeld ?_
          refine sk 38 hHeld ?_
          refine sk 39 hHeld ?_
          refine tk 40 hHeld ?_
          refine yD ?_
          go_wp2
          go_ret
          exact ⟨ret_bool HNO.out.symm, HW.out.then F.out⟩
        have r2 : ((281474976710656 : Int) < x.e) = False := eq_false ht1
        have HFX := Lib.hid (show fx = true by rw [HOE.out]; simp; omega)
        clear ht0 ht1
        rcases Nat.eq_zero_or_pos k with hk0 | hk0
        · subst hk0
          simp only [Nat.zero_mul, Nat.add_zero] at c0 c1 c2 c3
          have HNX := Lib.hid (HST.out.1 HFX.out (fun h => absurd h (by omega)))
          clear hkl hlt hk
          go_wp2_with fail
          refine wp_region_held_drew (S := (fun w' => w'.cell? ⟨wr.heap.size, 0, none⟩ = some (.string (B x.d)) ∧ w'.cell? ⟨wr.heap.size, 1, none⟩ = some (.int .i64 x.g) ∧ w'.cell? ⟨wr.heap.size, 2, none⟩ = some (.int .i64 x.e) ∧ w'.cell? ⟨wr.heap.size, 3, none⟩ = some (.int .i64 x.t))) (by kernel_rfl) ?_ (fun hHeld => ?_)
          · exact ⟨HB.out.2.c0, HB.out.2.c1, HB.out.2.c2, HB.out.2.c3⟩
          try simp only [zP, zN, zS, zT, zU]
          refine tk 0 hHeld ?_
          refine tk 1 hHeld ?_
          refine rY 2 (fun K hK => ?_)
          go_simp
          go_at_call 11
          refine (HFC.out _).mono ?_
          rintro e w1 ⟨rfl, g1⟩
          have f1 := g1.fp
          have b1 := HB.out.2.keep f1 (fun h => h)
          have HS1 := Lib.hid (And.intro b1.c0 (And.intro b1.c1 (And.intro b1.c2 b1.c3)))
          have F := Lib.hid (HB.out.1.then f1)
          clear f1 b1 g1
          go_wp2_with fail
          refine hK.out _ _ HS1.out (fun hHeld => ?_)
          clear hK K
          try simp only [zP, zN, zS, zT, zU]
          refine tk 3 hHeld ?_
          refine tk 4 hHeld ?_
          refine tk 5 hHeld ?_
          refine tk 6 hHeld ?_
          refine rY 7 (fun K hK => ?_)
          go_simp
          go_at_call 21
          refine (HG1.out _).mono ?_
          rintro e w2 ⟨rfl, rfl⟩
          go_wp2_with fail
          refine hK.out _ _ HS1.out (fun hHeld => ?_)
          clear hK K
          try simp only [zP, zN, zS, zT, zU]
          refine tk 8 hHeld ?_
          refine tk 9 hHeld ?_
          refine tk 10 hHeld ?_
          refine tk 11 hHeld ?_
          refine tk 12 hHeld ?_
          refine rY 13 (fun K hK => ?_)
          go_simp
          go_at_call 21
          refine (HG2.out _).mono ?_
          rintro e w2 ⟨rfl, rfl⟩
          go_wp2_with fail
          refine hK.out _ _ HS1.out (fun hHeld => ?_)
          clear hK K
          try simp only [zP, zN, zS, zT, zU]
          refine tk 14 hHeld ?_
          refine tk 15 hHeld ?_
          refine tk 16 hHeld ?_
          refine tk 17 hHeld ?_
          refine tk 18 hHeld ?_
          refine tk 19 hHeld ?_
          refine tk 20 hHeld ?_
          refine tk 21 hHeld ?_
          refine tk 22 hHeld ?_
          refine tk 23 hHeld ?_
          refine tk 24 hHeld ?_
          refine tk 25 hHeld ?_
          refine tk 26 hHeld ?_
          refine tk 27 hHeld ?_
          refine tk 28 hHeld ?_
          refine tk 29 hHeld ?_
          refine sk 30 hHeld ?_
          refine sk 31 hHeld ?_
          refine sk 32 hHeld ?_
          refine sk 33 hHeld ?_
          refine sk 34 hHeld ?_
          refine sk 35 hHeld ?_
          refine sk 36 hHeld ?_
          refine sk 37 hHeld ?_
          refine sk 38 hHeld ?_
          refine tk 39 hHeld ?_
          refine tk 40 hHeld ?_
          refine yD ?_
          have hkn := HK.out
          go_wp2
          go_roundw
          case rel => exact ⟨1, by have := HK.out; omega, by go_num, ⟨HW.out.then F.out, HNX.out⟩⟩
          case measure => have := HK.out; simp [RowKit.intOf]; omega
        · obtain ⟨z, hz, hz2⟩ := HST.out.2.2.1 (k - 1) (by omega)
          have HP := Lib.hid hz
          have hkm : k - 1 < l.length := by omega
          have HZ := Lib.hid (And.intro (hz2 hkm) (And.intro hk0 hkm))
          have wk : IntKind.i64.wrap ((k : Int) - 1) = ((k - 1 : Nat) : Int) := by rw [IntKind.wrap_i64]; omega
          have qz : ((0 : Int) < (k : Int)) = True := eq_true (by omega)
          have qz2 : (0 < k) = True := eq_true hk0
          have qn : (((k - 1 : Nat) : Int) < (n : Int)) = True := eq_true (by omega)
          have qn2 : (k - 1 < n) = True := eq_true (by omega)
          cases hle : lt z x.d with
          | false =>
            have HNO := Lib.hid (HST.out.2.1 (.inr ⟨HZ.out.2.1, HZ.out.2.2, by rw [← HZ.out.1]; exact hle⟩))
            have hle' : Op.bytesLess z x.d = false := hle
            clear hlt hk hk0 hz hz2 hle
            go_wp2_with fail
            refine wp_region_held_drew (S := (fun w' => w'.cell? ⟨wr.heap.size, 0, none⟩ = some (.string (B x.d)) ∧ w'.cell? ⟨wr.heap.size, 1, none⟩ = some (.int .i64 x.g) ∧ w'.cell? ⟨wr.heap.size, 2, none⟩ = some (.int .i64 x.e) ∧ w'.cell? ⟨wr.heap.size, 3, none⟩ = some (.int .i64 x.t) ∧ w'.cell? ⟨g0, o0 + (k - 1) * 4, none⟩ = some (.string (B z)))) (by kernel_rfl) ?_ (fun hHeld => ?_)
            · exact ⟨HB.out.2.c0, HB.out.2.c1, HB.out.2.c2, HB.out.2.c3, HP.out⟩
            try simp only [zP, zN, zS, zT, zU]
            refine tk 0 hHeld ?_
            refine tk 1 hHeld ?_
            refine rY 2 (fun K hK => ?_)
            go_simp
            go_at_call 11
            refine (HFC.out _).mono ?_
            rintro e w1 ⟨rfl, g1⟩
            have f1 := g1.fp
            have b1 := HB.out.2.keep f1 (fun h => h)
            have HS1 := Lib.hid (And.intro b1.c0 (And.intro b1.c1 (And.intro b1.c2 (And.intro b1.c3 (f1.cell HP.out (fun h => h))))))
            have F := Lib.hid (HB.out.1.then f1)
            clear f1 b1 g1
            go_wp2_with fail
            refine hK.out _ _ HS1.out (fun hHeld => ?_)
            clear hK K
            try simp only [zP, zN, zS, zT, zU]
            refine tk 3 hHeld ?_
            refine tk 4 hHeld ?_
            refine tk 5 hHeld ?_
            refine tk 6 hHeld ?_
            refine rY 7 (fun K hK => ?_)
            go_simp
            go_at_call 21
            refine (HG1.out _).mono ?_
            rintro e w2 ⟨rfl, rfl⟩
            go_wp2_with fail
            refine hK.out _ _ HS1.out (fun hHeld => ?_)
            clear hK K
            try simp only [zP, zN, zS, zT, zU]
            refine tk 8 hHeld ?_
            refine tk 9 hHeld ?_
            refine tk 10 hHeld ?_
            refine tk 11 hHeld ?_
            refine tk 12 hHeld ?_
            refine rY 13 (fun K hK => ?_)
            go_simp
            go_at_call 21
            refine (HG2.out _).mono ?_
            rintro e w2 ⟨rfl, rfl⟩
            go_wp2_with fail
            refine hK.out _ _ HS1.out (fun hHeld => ?_)
            clear hK K
            try simp only [zP, zN, zS, zT, zU]
            refine tk 14 hHeld ?_
            refine tk 15 hHeld ?_
            refine tk 16 hHeld ?_
            refine tk 17 hHeld ?_
            refine tk 18 hHeld ?_
            refine tk 19 hHeld ?_
            refine tk 20 hHeld ?_
            refine tk 21 hHeld ?_
            refine tk 22 hHeld ?_
            refine tk 23 hHeld ?_
            refine tk 24 hHeld ?_
            refine tk 25 hHeld ?_
            refine tk 26 hHeld ?_
            refine tk 27 hHeld ?_
            refine tk 28 hHeld ?_
            refine tk 29 hHeld ?_
            refine tk 30 hHeld ?_
            refine tk 31 hHeld ?_
            refine tk 32 hHeld ?_
            refine tk 33 hHeld ?_
            refine tk 34 hHeld ?_
            refine tk 35 hHeld ?_
            refine tk 36 hHeld ?_
            refine tk 37 hHeld ?_
            refine tk 38 hHeld ?_
            refine tk 39 hHeld ?_
            refine tk 40 hHeld ?_
            refine yD ?_
            go_wp2
            go_ret
            exact ⟨ret_bool HNO.out.symm, HW.out.then F.out⟩
          | true =>
            have HNX := Lib.hid (HST.out.1 HFX.out (fun _ h => by rw [← HZ.out.1]; exact hle))
            have hle' : Op.bytesLess z x.d = true := hle
            clear hlt hk hk0 hz hz2 hle
            go_wp2_with fail
            refine wp_region_held_drew (S := (fun w' => w'.cell? ⟨wr.heap.size, 0, none⟩ = some (.string (B x.d)) ∧ w'.cell? ⟨wr.heap.size, 1, none⟩ = some (.int .i64 x.g) ∧ w'.cell? ⟨wr.heap.size, 2, none⟩ = some (.int .i64 x.e) ∧ w'.cell? ⟨wr.heap.size, 3, none⟩ = some (.int .i64 x.t) ∧ w'.cell? ⟨g0, o0 + (k - 1) * 4, none⟩ = some (.string (B z)))) (by kernel_rfl) ?_ (fun hHeld => ?_)
            · exact ⟨HB.out.2.c0, HB.out.2.c1, HB.out.2.c2, HB.out.2.c3, HP.out⟩
            try simp only [zP, zN, zS, zT, zU]
            refine tk 0 hHeld ?_
            refine tk 1 hHeld ?_
            refine rY 2 (fun K hK => ?_)
            go_simp
            go_at_call 11
            refine (HFC.out _).mono ?_
            rintro e w1 ⟨rfl, g1⟩
            have f1 := g1.fp
            have b1 := HB.out.2.keep f1 (fun h => h)
            have HS1 := Lib.hid (And.intro b1.c0 (And.intro b1.c1 (And.intro b1.c2 (And.intro b1.c3 (f1.cell HP.out (fun h => h))))))
            have F := Lib.hid (HB.out.1.then f1)
            clear f1 b1 g1
            go_wp2_with fail
            refine hK.out _ _ HS1.out (fun hHeld => ?_)
            clear hK K
            try simp only [zP, zN, zS, zT, zU]
            refine tk 3 hHeld ?_
            refine tk 4 hHeld ?_
            refine tk 5 hHeld ?_
            refine tk 6 hHeld ?_
            refine rY 7 (fun K hK => ?_)
            go_simp
            go_at_call 21
            refine (HG1.out _).mono ?_
            rintro e w2 ⟨rfl, rfl⟩
            go_wp2_with fail
            refine hK.out _ _ HS1.out (fun hHeld => ?_)
            clear hK K
            try simp only [zP, zN, zS, zT, zU]
            refine tk 8 hHeld ?_
            refine tk 9 hHeld ?_
            refine tk 10 hHeld ?_
            refine tk 11 hHeld ?_
            refine tk 12 hHeld ?_
            refine rY 13 (fun K hK => ?_)
            go_simp
            go_at_call 21
            refine (HG2.out _).mono ?_
            rintro e w2 ⟨rfl, rfl⟩
            go_wp2_with fail
            refine hK.out _ _ HS1.out (fun hHeld => ?_)
            clear hK K
            try simp only [zP, zN, zS, zT, zU]
            refine tk 14 hHeld ?_
            refine tk 15 hHeld ?_
            refine tk 16 hHeld ?_
            refine tk 17 hHeld ?_
            refine tk 18 hHeld ?_
            refine tk 19 hHeld ?_
            refine tk 20 hHeld ?_
            refine tk 21 hHeld ?_
            refine tk 22 hHeld ?_
            refine tk 23 hHeld ?_
            refine tk 24 hHeld ?_
            refine tk 25 hHeld ?_
            refine tk 26 hHeld ?_
            refine tk 27 hHeld ?_
            refine tk 28 hHeld ?_
            refine tk 29 hHeld ?_
            refine tk 30 hHeld ?_
            refine tk 31 hHeld ?_
            refine tk 32 hHeld ?_
            refine tk 33 hHeld ?_
            refine tk 34 hHeld ?_
            refine tk 35 hHeld ?_
            refine tk 36 hHeld ?_
            refine tk 37 hHeld ?_
            refine tk 38 hHeld ?_
            refine tk 39 hHeld ?_
            refine tk 40 hHeld ?_
            refine yD ?_
            have hkn := HK.out
            go_wp2
            go_roundw
            case rel => exact ⟨k + 1, by have := HK.out; omega, by go_num, ⟨HW.out.then F.out, HNX.out⟩⟩
            case measure => have := HK.out; simp [RowKit.intOf]; omega
    · have hke : k = n := by omega
      subst hke
      have q3 : ((k : Int) < (k : Int)) = False := eq_false (by omega)
      have HE := Lib.hid (HYes.out (chkM_all (by have := HX.out.1; have := H32.out; omega) HRT.out (fun j hj => hR.out.2 j hj (by rw [HX.out.1]; exact hj))))
      clear hlt hk
      go_wp2
      go_ret
      exact ⟨ret_bool HE.out.symm, hR.out.1⟩
end Go.Proofs.Ytajgjhkienhpjaa
