/- Texts of this proof, merged. -/
import Derived.Test.YtdfnfkknbjageaaZQ
import Derived.Laws.AppendOwnNone
import Derived.Test.YtdfnfkknbjageaaZJ
import Derived.Test.YtdfnfkknbjageaaZH
set_option linter.unusedVariables false
set_option linter.unusedSimpArgs false
/- The document's own path functions, walked. -/
namespace Go.Proofs.Ytdfnfkknbjageaa
set_option maxRecDepth 20000
open Go.RowKit Pm

set_option maxHeartbeats 400000 in
theorem rRight_g (l : Bs) (w : World) (hl : sz l) :
    Calls Try.prog 26 #[.string (B l)] w fun e w' => e = .returned (.bool (split l).isSome) ∧ Gr w w' := by
  go_enter Try.func26, Try.ntmps26
  go_wp2_with fail
  refine (rSplit_c l w hl).mono ?_
  rintro e w1 ⟨v, rfl, _, hb⟩
  go_wp2
  go_ret
  exact ⟨rfl, hb⟩

end Go.Proofs.Ytdfnfkknbjageaa

/- The document's Right of mounts (gen_bx.py) -/
namespace Go.Proofs.Ytdfnfkknbjageaa
set_option maxRecDepth 20000
set_option linter.unusedVariables false
set_option linter.unusedSimpArgs false
open Go.RowKit Pm

set_option maxHeartbeats 400000 in
theorem rGroup_c (n : Int) (w : World) : Calls Try.prog 27 #[.int .i64 n] w fun e w' => e = .returned (.bool (okG n)) ∧ w' = w := by
  by_cases h0 : 0 ≤ n
  · have q1 : ((0 : Int) ≤ n) = True := eq_true h0
    by_cases h1 : n < 4
    · have q2 : (n < 4) = True := eq_true h1
      have e : okG n = true := decide_eq_true ⟨h0, h1⟩
      rw [e]
      clear h0 h1 e
      go_enter Try.func27, Try.ntmps27
      go_wp2
      go_ret
      exact ⟨rfl, rfl⟩
    · have q2 : (n < 4) = False := eq_false h1
      have e : okG n = false := decide_eq_false (fun h => h1 h.2)
      rw [e]
      clear h0 h1 e
      go_enter Try.func27, Try.ntmps27
      go_wp2
      go_ret
      exact ⟨rfl, rfl⟩
  · have q1 : ((0 : Int) ≤ n) = False := eq_false h0
    have e : okG n = false := decide_eq_false (fun h => h0 h.1)
    rw [e]
    clear h0 e
    go_enter Try.func27, Try.ntmps27
    go_wp2
    go_ret
    exact ⟨rfl, rfl⟩
set_option maxHeartbeats 16000000 in
theorem rRightM_c (v : Value) (l : List Mt) (w : World) (hv : NsM w v l) (hs : ∀ x ∈ l, x.d.length ≤ 140737488355328) (hn : l.length ≤ 140737488355328) :
    Calls Try.prog 12 #[v] w fun e w' => e = .returned (.bool (rightM l)) ∧ Fp Non w w' := by
  obtain ⟨ao, cap, rfl⟩ := hv.shape
  obtain ⟨n, hnn⟩ : ∃ n, n = l.length := ⟨_, rfl⟩
  obtain ⟨r, hr⟩ : ∃ r, rightM l = r := ⟨_, rfl⟩
  have hno : ¬ RtM l → r = false := fun h => by
    cases e : r with
    | false => rfl
    | true => rw [e] at hr; exact absurd ((right_ifft l).1 hr) h
  have HNone := Lib.hid (show ∀ k (hk : k < l.length), ¬ ChkM l k hk → r = false from fun k hk h => hno (fun c => h (chkM_right c k hk)))
  have HYes := Lib.hid (show RtM l → r = true from fun h => by rw [← hr]; exact (right_ifft l).2 h)
  have HLong := Lib.hid (show 32 < l.length → r = false from fun h => hno (fun c => by have := c.len; omega))
  have HEmpty := Lib.hid (show l.length = 0 → r = false from fun h => hno (fun c => by have := c.pos; omega))
  have HRoot := Lib.hid (show ∀ h : 0 < l.length, l[0].d ≠ [47] → r = false from fun h e => hno (fun c => by obtain ⟨x, r, rfl, h2⟩ := c.root; exact e h2))
  have HX := Lib.hid (And.intro hnn (And.intro hv hs))
  rw [hr, ← hnn]
  have hnb : n ≤ 140737488355328 := by omega
  clear hv hs hn hnn hr hno
  go_enter Try.func12, Try.ntmps12
  by_cases h00 : n = 0
  · have HE := Lib.hid (HEmpty.out (by rw [← HX.out.1]; exact h00))
    subst h00
    go_wp2
    go_ret
    exact ⟨ret_bool HE.out.symm, Fp.refl _ _⟩
  have q01 : ((n : Int) < 1) = False := eq_false (by omega)
  have q02 : (n < 1) = False := eq_false (by omega)
  by_cases h32 : 32 < n
  · have q1 : ((32 : Int) < (n : Int)) = True := eq_true (by omega)
    have q2 : (32 < n) = True := eq_true h32
    have HE := Lib.hid (HLong.out (by rw [← HX.out.1]; exact h32))
    clear h32 h00
    go_wp2
    go_ret
    exact ⟨ret_bool HE.out.symm, Fp.refl _ _⟩
  have q1 : ((32 : Int) < (n : Int)) = False := eq_false (by omega)
  have q2 : (32 < n) = False := eq_false h32
  have qp1 : ((0 : Int) < (n : Int)) = True := eq_true (by omega)
  have qp2 : (0 < n) = True := eq_true (by omega)
  have H32 := Lib.hid (And.intro h32 h00)
  have h0l : 0 < l.length := by rw [← HX.out.1]; omega
  obtain ⟨g0, o0, cap0, e0, _, _, _, hcell0⟩ := HX.out.2.1.at h0l
  injection e0 with e1 e2 e3
  subst e1 e3
  have z0 := (hcell0 0 h0l).c0
  rw [Nat.zero_mul, Nat.add_zero] at z0
  have hroot := HRoot.out h0l
  obtain ⟨d0, hd0⟩ : ∃ d, d = (l[0]).d := ⟨_, rfl⟩
  rw [← hd0] at z0 hroot
  unfold strV at z0
  by_cases hrt : ¬ d0 = [47]
  · have HE := Lib.hid (hroot hrt)
    have qr : (d0 == [47]) = false := beq_eq_false_iff_ne.2 hrt
    have qr2 : (d0 = [47]) = False := eq_false hrt
    clear h32 h00 hroot hd0 hcell0 h0l hrt e2
    go_wp2
    go_ret
    exact ⟨ret_bool HE.out.symm, Fp.refl _ _⟩
  have hrt := Decidable.not_not.1 hrt
  have HRT := Lib.hid (show ∃ h : 0 < l.length, l[0].d = [47] from ⟨h0l, by rw [← hd0]; exact hrt⟩)
  subst hrt
  clear h32 h00 hroot hd0 hcell0 h0l e2
  go_wp2_with fail
  clear z0
  go_loopw [3] (fun i wr => ∃ k : Nat, k ≤ n ∧ i = .int .i64 k ∧ Hid (Fp Non w wr ∧ ∀ j (hj : j < l.length), j < k → ChkM l j hj)) (fun i _ => n - (RowKit.intOf i).toNat)
  case atStart => exact ⟨0, Nat.zero_le _, rfl, Fp.refl _ _, fun j _ h => absurd h (Nat.not_lt_zero j)⟩
  case round =>
    obtain ⟨k, hk, rfl, hR⟩ := hrel
    rename_i wr _
    by_cases hlt : k < n
    · have hkl : k < l.length := by rw [← HX.out.1]; exact hlt
      obtain ⟨g, o, cap', e, _, _, _, hcell⟩ := HX.out.2.1.at (by omega)
      injection e with e1 e2 e3
      injection e1 with e1
      injection e1 with e4 e5
      subst e4 e5 e3
      clear e2
      have f0 := hR.out.1
      have hnd := (hcell k hkl).keep f0 (fun h => h)
      obtain ⟨x, hx⟩ : ∃ x, x = l[k] := ⟨_, rfl⟩
      rw [← hx] at hnd
      have c0 := hnd.c0; have c1 := hnd.c1; have c2 := hnd.c2; have c3 := hnd.c3
      unfold strV at c0
      have q3 : ((k : Int) < (n : Int)) = True := eq_true (by omega)
      have q4 : (k < n) = True := eq_true hlt
      have hxp : x.d.length ≤ 140737488355328 := HX.out.2.2 x (by rw [hx]; exact List.getElem_mem hkl)
      have hfc := fun w => rRight_g x.d w (sz_of hxp (by omega))
      have hg1 := fun w => rGroup_c x.g w
      have hg2 := fun w => rGroup_c x.t w
      have hbb := bxM wr x
      have HB := Lib.hid (And.intro (((Fp.refl Non wr).alloc (Obj.cells #[.string (B x.d), .int .i64 x.g, .int .i64 x.e, .int .i64 x.t] TM)).drew) hbb)
      have HW := Lib.hid (f0)
      have HK := Lib.hid hlt
      have hpc : ∀ k', k' < l.length → ∃ z, (wr.alloc (Obj.cells #[.string (B x.d), .int .i64 x.g, .int .i64 x.e, .int .i64 x.t] TM)).drew.cell? ⟨g0, o0 + k' * 4, none⟩ = some (.string (B z)) ∧ ∀ h : k' < l.length, z = (l[k']).d := fun k' h => ⟨_, HB.out.1.cell ((hcell k' h).keep f0 (fun h => h)).c0 (fun h => h), fun _ => rfl⟩
      have hold := hR.out.2
      have hstep : okM x = true → (0 < k → ∀ h : k - 1 < l.length, lt (l[k-1]).d x.d = true) → ∀ j (hj : j < l.length), j < k + 1 → ChkM l j hj := fun a b j hj hjk => by
        rcases Nat.lt_or_eq_of_le (show j ≤ k by omega) with e | e
        · exact hold j hj e
        · subst e; exact ⟨by rw [← hx]; exact a, fun h0 h1 => by rw [← hx]; exact b h0 h1⟩
      have hno : (okM x = false ∨ (0 < k ∧ ∃ h : k - 1 < l.length, lt (l[k-1]).d x.d = false)) → r = false := fun h => HNone.out k hkl (fun c => by
        rcases h with h | ⟨h0, h1, h2⟩
        · have := c.1; rw [← hx, h] at this; cases this
        · have := c.2 h0 h1; rw [← hx, h2] at this; cases this)
      obtain ⟨b0, hb0⟩ : ∃ b, (split x.d).isSome = b := ⟨_, rfl⟩
      obtain ⟨b1, hb1⟩ : ∃ b, okG x.g = b := ⟨_, rfl⟩
      obtain ⟨b2, hb2⟩ : ∃ b, okG x.t = b := ⟨_, rfl⟩
      obtain ⟨fx, hfx⟩ : ∃ b, okM x = b := ⟨_, rfl⟩
      have hoe : fx = (b0 && b1 && b2 && decide (0 ≤ x.e ∧ x.e ≤ 281474976710656)) := by rw [← hfx, ← hb0, ← hb1, ← hb2]; rfl
      rw [hb0] at hfc
      rw [hb1] at hg1
      rw [hb2] at hg2
      rw [hfx] at hstep hno
      have HOE := Lib.hid hoe
      have HG1 := Lib.hid hg1
      have HG2 := Lib.hid hg2
      clear hb0 hb1 hb2 hoe hg1 hg2
      have HFC := Lib.hid hfc
      have HST := Lib.hid (And.intro hstep (And.intro hno (And.intro hpc hkl)))
      clear hfc hbb hpc hold hstep hno hfx hxp hx hnd hcell f0
      cases b0 with
      | false =>
        have HNO := Lib.hid (HST.out.2.1 (.inl (by rw [HOE.out]; rfl)))
        clear hkl hlt hk
        go_wp2_with fail
        refine wp_region_held_drew (S := (fun w' => w'.cell? ⟨wr.heap.size, 0, none⟩ = some (.string (B x.d)) ∧ w'.cell? ⟨wr.heap.size, 1, none⟩ = some (.int .i64 x.g) ∧ w'.cell? ⟨wr.heap.size, 2, none⟩ = some (.int .i64 x.e) ∧ w'.cell? ⟨wr.heap.size, 3, none⟩ = some (.int .i64 x.t))) (by kernel_rfl) ?_ (fun hHeld => ?_)
        · exact ⟨HB.out.2.c0, HB.out.2.c1, HB.out.2.c2, HB.out.2.c3⟩
        try simp only [zP, zN, zS, zT, zU]
        refine tkt 0 hHeld ?_
        refine tkt 1 hHeld ?_
        refine rY 2 (fun K hK => ?_)
        go_simp
        go_at_call 26
        refine (HFC.out _).mono ?_
        rintro e w1 ⟨rfl, g1⟩
        have f1 := g1.fp
        have b1 := HB.out.2.keep f1 (fun h => h)
        have HS1 := Lib.hid (And.intro b1.c0 (And.intro b1.c1 (And.intro b1.c2 b1.c3)))
        have F := Lib.hid (HB.out.1.then f1)
        clear f1 b1 g1
        go_wp2_with fail
        refine hK.out _ _ HS1.out (fun hHeld => ?_)
        clear hK K
        try simp only [zP, zN, zS, zT, zU]
        refine tkt 3 hHeld ?_
        refine tkt 4 hHeld ?_
        refine skt 5 hHeld ?_
        refine skt 6 hHeld ?_
        refine skt 7 hHeld ?_
        refine skt 8 hHeld ?_
        refine tkt 9 hHeld ?_
        refine tkt 10 hHeld ?_
        refine skt 11 hHeld ?_
        refine skt 12 hHeld ?_
        refine skt 13 hHeld ?_
        refine skt 14 hHeld ?_
        refine tkt 15 hHeld ?_
        refine tkt 16 hHeld ?_
        refine skt 17 hHeld ?_
        refine skt 18 hHeld ?_
        refine skt 19 hHeld ?_
        refine tkt 20 hHeld ?_
        refine tkt 21 hHeld ?_
        refine skt 22 hHeld ?_
        refine skt 23 hHeld ?_
        refine skt 24 hHeld ?_
        refine tkt 25 hHeld ?_
        refine tkt 26 hHeld ?_
        refine skt 27 hHeld ?_
        refine skt 28 hHeld ?_
        refine skt 29 hHeld ?_
        refine skt 30 hHeld ?_
        refine skt 31 hHeld ?_
        refine skt 32 hHeld ?_
        refine skt 33 hHeld ?_
        refine skt 34 hHeld ?_
        refine skt 35 hHeld ?_
        refine skt 36 hHeld ?_
        refine skt 37 hHeld ?_
        refine skt 38 hHeld ?_
        refine skt 39 hHeld ?_
        refine tkt 40 hHeld ?_
        refine yD ?_
        go_wp2
        go_ret
        exact ⟨ret_bool HNO.out.symm, HW.out.then F.out⟩
      | true =>
      cases b1 with
      | false =>
        have HNO := Lib.hid (HST.out.2.1 (.inl (by rw [HOE.out]; rfl)))
        clear hkl hlt hk
        go_wp2_with fail
        refine wp_region_held_drew (S := (fun w' => w'.cell? ⟨wr.heap.size, 0, none⟩ = some (.string (B x.d)) ∧ w'.cell? ⟨wr.heap.size, 1, none⟩ = some (.int .i64 x.g) ∧ w'.cell? ⟨wr.heap.size, 2, none⟩ = some (.int .i64 x.e) ∧ w'.cell? ⟨wr.heap.size, 3, none⟩ = some (.int .i64 x.t))) (by kernel_rfl) ?_ (fun hHeld => ?_)
        · exact ⟨HB.out.2.c0, HB.out.2.c1, HB.out.2.c2, HB.out.2.c3⟩
        try simp only [zP, zN, zS, zT, zU]
        refine tkt 0 hHeld ?_
        refine tkt 1 hHeld ?_
        refine rY 2 (fun K hK => ?_)
        go_simp
        go_at_call 26
        refine (HFC.out _).mono ?_
        rintro e w1 ⟨rfl, g1⟩
        have f1 := g1.fp
        have b1 := HB.out.2.keep f1 (fun h => h)
        have HS1 := Lib.hid (And.intro b1.c0 (And.intro b1.c1 (And.intro b1.c2 b1.c3)))
        have F := Lib.hid (HB.out.1.then f1)
        clear f1 b1 g1
        go_wp2_with fail
        refine hK.out _ _ HS1.out (fun hHeld => ?_)
        clear hK K
        try simp only [zP, zN, zS, zT, zU]
        refine tkt 3 hHeld ?_
        refine tkt 4 hHeld ?_
        refine tkt 5 hHeld ?_
        refine tkt 6 hHeld ?_
        refine rY 7 (fun K hK => ?_)
        go_simp
        go_at_call 27
        refine (HG1.out _).mono ?_
        rintro e w2 ⟨rfl, rfl⟩
        go_wp2_with fail
        refine hK.out _ _ HS1.out (fun hHeld => ?_)
        clear hK K
        try simp only [zP, zN, zS, zT, zU]
        refine tkt 8 hHeld ?_
        refine tkt 9 hHeld ?_
        refine tkt 10 hHeld ?_
        refine skt 11 hHeld ?_
        refine skt 12 hHeld ?_
        refine skt 13 hHeld ?_
        refine skt 14 hHeld ?_
        refine tkt 15 hHeld ?_
        refine tkt 16 hHeld ?_
        refine skt 17 hHeld ?_
        refine skt 18 hHeld ?_
        refine skt 19 hHeld ?_
        refine tkt 20 hHeld ?_
        refine tkt 21 hHeld ?_
        refine skt 22 hHeld ?_
        refine skt 23 hHeld ?_
        refine skt 24 hHeld ?_
        refine tkt 25 hHeld ?_
        refine tkt 26 hHeld ?_
        refine skt 27 hHeld ?_
        refine skt 28 hHeld ?_
        refine skt 29 hHeld ?_
        refine skt 30 hHeld ?_
        refine skt 31 hHeld ?_
        refine skt 32 hHeld ?_
        refine skt 33 hHeld ?_
        refine skt 34 hHeld ?_
        refine skt 35 hHeld ?_
        refine skt 36 hHeld ?_
        refine skt 37 hHeld ?_
        refine skt 38 hHeld ?_
        refine skt 39 hHeld ?_
        refine tkt 40 hHeld ?_
        refine yD ?_
        go_wp2
        go_ret
        exact ⟨ret_bool HNO.out.symm, HW.out.then F.out⟩
      | true =>
      cases b2 with
      | false =>
        have HNO := Lib.hid (HST.out.2.1 (.inl (by rw [HOE.out]; rfl)))
        clear hkl hlt hk
        go_wp2_with fail
        refine wp_region_held_drew (S := (fun w' => w'.cell? ⟨wr.heap.size, 0, none⟩ = some (.string (B x.d)) ∧ w'.cell? ⟨wr.heap.size, 1, none⟩ = some (.int .i64 x.g) ∧ w'.cell? ⟨wr.heap.size, 2, none⟩ = some (.int .i64 x.e) ∧ w'.cell? ⟨wr.heap.size, 3, none⟩ = some (.int .i64 x.t))) (by kernel_rfl) ?_ (fun hHeld => ?_)
        · exact ⟨HB.out.2.c0, HB.out.2.c1, HB.out.2.c2, HB.out.2.c3⟩
        try simp only [zP, zN, zS, zT, zU]
        refine tkt 0 hHeld ?_
        refine tkt 1 hHeld ?_
        refine rY 2 (fun K hK => ?_)
        go_simp
        go_at_call 26
        refine (HFC.out _).mono ?_
        rintro e w1 ⟨rfl, g1⟩
        have f1 := g1.fp
        have b1 := HB.out.2.keep f1 (fun h => h)
        have HS1 := Lib.hid (And.intro b1.c0 (And.intro b1.c1 (And.intro b1.c2 b1.c3)))
        have F := Lib.hid (HB.out.1.then f1)
        clear f1 b1 g1
        go_wp2_with fail
        refine hK.out _ _ HS1.out (fun hHeld => ?_)
        clear hK K
        try simp only [zP, zN, zS, zT, zU]
        refine tkt 3 hHeld ?_
        refine tkt 4 hHeld ?_
        refine tkt 5 hHeld ?_
        refine tkt 6 hHeld ?_
        refine rY 7 (fun K hK => ?_)
        go_simp
        go_at_call 27
        refine (HG1.out _).mono ?_
        rintro e w2 ⟨rfl, rfl⟩
        go_wp2_with fail
        refine hK.out _ _ HS1.out (fun hHeld => ?_)
        clear hK K
        try simp only [zP, zN, zS, zT, zU]
        refine tkt 8 hHeld ?_
        refine tkt 9 hHeld ?_
        refine tkt 10 hHeld ?_
        refine tkt 11 hHeld ?_
        refine tkt 12 hHeld ?_
        refine rY 13 (fun K hK => ?_)
        go_simp
        go_at_call 27
        refine (HG2.out _).mono ?_
        rintro e w2 ⟨rfl, rfl⟩
        go_wp2_with fail
        refine hK.out _ _ HS1.out (fun hHeld => ?_)
        clear hK K
        try simp only [zP, zN, zS, zT, zU]
        refine tkt 14 hHeld ?_
        refine tkt 15 hHeld ?_
        refine tkt 16 hHeld ?_
        refine skt 17 hHeld ?_
        refine skt 18 hHeld ?_
        refine skt 19 hHeld ?_
        refine tkt 20 hHeld ?_
        refine tkt 21 hHeld ?_
        refine skt 22 hHeld ?_
        refine skt 23 hHeld ?_
        refine skt 24 hHeld ?_
        refine tkt 25 hHeld ?_
        refine tkt 26 hHeld ?_
        refine skt 27 hHeld ?_
        refine skt 28 hHeld ?_
        refine skt 29 hHeld ?_
        refine skt 30 hHeld ?_
        refine skt 31 hHeld ?_
        refine skt 32 hHeld ?_
        refine skt 33 hHeld ?_
        refine skt 34 hHeld ?_
        refine skt 35 hHeld ?_
        refine skt 36 hHeld ?_
        refine skt 37 hHeld ?_
        refine skt 38 hHeld ?_
        refine skt 39 hHeld ?_
        refine tkt 40 hHeld ?_
        refine yD ?_
        go_wp2
        go_ret
        exact ⟨ret_bool HNO.out.symm, HW.out.then F.out⟩
      | true =>
        by_cases ht0 : x.e < 0
        · have HNO := Lib.hid (HST.out.2.1 (.inl (by rw [HOE.out]; simp; omega)))
          have r1 : (x.e < 0) = True := eq_true ht0
          clear hkl hlt hk ht0
          go_wp2_with fail
          refine wp_region_held_drew (S := (fun w' => w'.cell? ⟨wr.heap.size, 0, none⟩ = some (.string (B x.d)) ∧ w'.cell? ⟨wr.heap.size, 1, none⟩ = some (.int .i64 x.g) ∧ w'.cell? ⟨wr.heap.size, 2, none⟩ = some (.int .i64 x.e) ∧ w'.cell? ⟨wr.heap.size, 3, none⟩ = some (.int .i64 x.t))) (by kernel_rfl) ?_ (fun hHeld => ?_)
          · exact ⟨HB.out.2.c0, HB.out.2.c1, HB.out.2.c2, HB.out.2.c3⟩
          try simp only [zP, zN, zS, zT, zU]
          refine tkt 0 hHeld ?_
          refine tkt 1 hHeld ?_
          refine rY 2 (fun K hK => ?_)
          go_simp
          go_at_call 26
          refine (HFC.out _).mono ?_
          rintro e w1 ⟨rfl, g1⟩
          have f1 := g1.fp
          have b1 := HB.out.2.keep f1 (fun h => h)
          have HS1 := Lib.hid (And.intro b1.c0 (And.intro b1.c1 (And.intro b1.c2 b1.c3)))
          have F := Lib.hid (HB.out.1.then f1)
          clear f1 b1 g1
          go_wp2_with fail
          refine hK.out _ _ HS1.out (fun hHeld => ?_)
          clear hK K
          try simp only [zP, zN, zS, zT, zU]
          refine tkt 3 hHeld ?_
          refine tkt 4 hHeld ?_
          refine tkt 5 hHeld ?_
          refine tkt 6 hHeld ?_
          refine rY 7 (fun K hK => ?_)
          go_simp
          go_at_call 27
          refine (HG1.out _).mono ?_
          rintro e w2 ⟨rfl, rfl⟩
          go_wp2_with fail
          refine hK.out _ _ HS1.out (fun hHeld => ?_)
          clear hK K
          try simp only [zP, zN, zS, zT, zU]
          refine tkt 8 hHeld ?_
          refine tkt 9 hHeld ?_
          refine tkt 10 hHeld ?_
          refine tkt 11 hHeld ?_
          refine tkt 12 hHeld ?_
          refine rY 13 (fun K hK => ?_)
          go_simp
          go_at_call 27
          refine (HG2.out _).mono ?_
          rintro e w2 ⟨rfl, rfl⟩
          go_wp2_with fail
          refine hK.out _ _ HS1.out (fun hHeld => ?_)
          clear hK K
          try simp only [zP, zN, zS, zT, zU]
          refine tkt 14 hHeld ?_
          refine tkt 15 hHeld ?_
          refine tkt 16 hHeld ?_
          refine tkt 17 hHeld ?_
          refine tkt 18 hHeld ?_
          refine tkt 19 hHeld ?_
          refine tkt 20 hHeld ?_
          refine tkt 21 hHeld ?_
          refine skt 22 hHeld ?_
          refine skt 23 hHeld ?_
          refine skt 24 hHeld ?_
          refine tkt 25 hHeld ?_
          refine tkt 26 hHeld ?_
          refine skt 27 hHeld ?_
          refine skt 28 hHeld ?_
          refine skt 29 hHeld ?_
          refine skt 30 hHeld ?_
          refine skt 31 hHeld ?_
          refine skt 32 hHeld ?_
          refine skt 33 hHeld ?_
          refine skt 34 hHeld ?_
          refine skt 35 hHeld ?_
          refine skt 36 hHeld ?_
          refine skt 37 hHeld ?_
          refine skt 38 hHeld ?_
          refine skt 39 hHeld ?_
          refine tkt 40 hHeld ?_
          refine yD ?_
          go_wp2
          go_ret
          exact ⟨ret_bool HNO.out.symm, HW.out.then F.out⟩
        have r1 : (x.e < 0) = False := eq_false ht0
        by_cases ht1 : 281474976710656 < x.e
        · have HNO := Lib.hid (HST.out.2.1 (.inl (by rw [HOE.out]; simp; omega)))
          have r2 : ((281474976710656 : Int) < x.e) = True := eq_true ht1
          clear hkl hlt hk ht0 ht1
          go_wp2_with fail
          refine wp_region_held_drew (S := (fun w' => w'.cell? ⟨wr.heap.size, 0, none⟩ = some (.string (B x.d)) ∧ w'.cell? ⟨wr.heap.size, 1, none⟩ = some (.int .i64 x.g) ∧ w'.cell? ⟨wr.heap.size, 2, none⟩ = some (.int .i64 x.e) ∧ w'.cell? ⟨wr.heap.size, 3, none⟩ = some (.int .i64 x.t))) (by kernel_rfl) ?_ (fun hHeld => ?_)
          · exact ⟨HB.out.2.c0, HB.out.2.c1, HB.out.2.c2, HB.out.2.c3⟩
          try simp only [zP, zN, zS, zT, zU]
          refine tkt 0 hHeld ?_
          refine tkt 1 hHeld ?_
          refine rY 2 (fun K hK => ?_)
          go_simp
          go_at_call 26
          refine (HFC.out _).mono ?_
          rintro e w1 ⟨rfl, g1⟩
          have f1 := g1.fp
          have b1 := HB.out.2.keep f1 (fun h => h)
          have HS1 := Lib.hid (And.intro b1.c0 (And.intro b1.c1 (And.intro b1.c2 b1.c3)))
          have F := Lib.hid (HB.out.1.then f1)
          clear f1 b1 g1
          go_wp2_with fail
          refine hK.out _ _ HS1.out (fun hHeld => ?_)
          clear hK K
          try simp only [zP, zN, zS, zT, zU]
          refine tkt 3 hHeld ?_
          refine tkt 4 hHeld ?_
          refine tkt 5 hHeld ?_
          refine tkt 6 hHeld ?_
          refine rY 7 (fun K hK => ?_)
          go_simp
          go_at_call 27
          refine (HG1.out _).mono ?_
          rintro e w2 ⟨rfl, rfl⟩
          go_wp2_with fail
          refine hK.out _ _ HS1.out (fun hHeld => ?_)
          clear hK K
          try simp only [zP, zN, zS, zT, zU]
          refine tkt 8 hHeld ?_
          refine tkt 9 hHeld ?_
          refine tkt 10 hHeld ?_
          refine tkt 11 hHeld ?_
          refine tkt 12 hHeld ?_
          refine rY 13 (fun K hK => ?_)
          go_simp
          go_at_call 27
          refine (HG2.out _).mono ?_
          rintro e w2 ⟨rfl, rfl⟩
          go_wp2_with fail
          refine hK.out _ _ HS1.out (fun hHeld => ?_)
          clear hK K
          try simp only [zP, zN, zS, zT, zU]
          refine tkt 14 hHeld ?_
          refine tkt 15 hHeld ?_
          refine tkt 16 hHeld ?_
          refine tkt 17 hHeld ?_
          refine tkt 18 hHeld ?_
          refine tkt 19 hHeld ?_
          refine tkt 20 hHeld ?_
          refine tkt 21 hHeld ?_
          refine tkt 22 hHeld ?_
          refine tkt 23 hHeld ?_
          refine tkt 24 hHeld ?_
          refine tkt 25 hHeld ?_
          refine tkt 26 hHeld ?_
          refine skt 27 hHeld ?_
          refine skt 28 hHeld ?_
          refine skt 29 hHeld ?_
          refine skt 30 hHeld ?_
          refine skt 31 hHeld ?_
          refine skt 32 hHeld ?_
          refine skt 33 hHeld ?_
          refine skt 34 hHeld ?_
          refine skt 35 hHeld ?_
          refine skt 36 hHeld ?_
          refine skt 37 hHeld ?_
          refine skt 38 hHeld ?_
          refine skt 39 hHeld ?_
          refine tkt 40 hHeld ?_
          refine yD ?_
          go_wp2
          go_ret
          exact ⟨ret_bool HNO.out.symm, HW.out.then F.out⟩
        have r2 : ((281474976710656 : Int) < x.e) = False := eq_false ht1
        have HFX := Lib.hid (show fx = true by rw [HOE.out]; simp; omega)
        clear ht0 ht1
        rcases Nat.eq_zero_or_pos k with hk0 | hk0
        · subst hk0
          simp only [Nat.zero_mul, Nat.add_zero] at c0 c1 c2 c3
          have HNX := Lib.hid (HST.out.1 HFX.out (fun h => absurd h (by omega)))
          clear hkl hlt hk
          go_wp2_with fail
          refine wp_region_held_drew (S := (fun w' => w'.cell? ⟨wr.heap.size, 0, none⟩ = some (.string (B x.d)) ∧ w'.cell? ⟨wr.heap.size, 1, none⟩ = some (.int .i64 x.g) ∧ w'.cell? ⟨wr.heap.size, 2, none⟩ = some (.int .i64 x.e) ∧ w'.cell? ⟨wr.heap.size, 3, none⟩ = some (.int .i64 x.t))) (by kernel_rfl) ?_ (fun hHeld => ?_)
          · exact ⟨HB.out.2.c0, HB.out.2.c1, HB.out.2.c2, HB.out.2.c3⟩
          try simp only [zP, zN, zS, zT, zU]
          refine tkt 0 hHeld ?_
          refine tkt 1 hHeld ?_
          refine rY 2 (fun K hK => ?_)
          go_simp
          go_at_call 26
          refine (HFC.out _).mono ?_
          rintro e w1 ⟨rfl, g1⟩
          have f1 := g1.fp
          have b1 := HB.out.2.keep f1 (fun h => h)
          have HS1 := Lib.hid (And.intro b1.c0 (And.intro b1.c1 (And.intro b1.c2 b1.c3)))
          have F := Lib.hid (HB.out.1.then f1)
          clear f1 b1 g1
          go_wp2_with fail
          refine hK.out _ _ HS1.out (fun hHeld => ?_)
          clear hK K
          try simp only [zP, zN, zS, zT, zU]
          refine tkt 3 hHeld ?_
          refine tkt 4 hHeld ?_
          refine tkt 5 hHeld ?_
          refine tkt 6 hHeld ?_
          refine rY 7 (fun K hK => ?_)
          go_simp
          go_at_call 27
          refine (HG1.out _).mono ?_
          rintro e w2 ⟨rfl, rfl⟩
          go_wp2_with fail
          refine hK.out _ _ HS1.out (fun hHeld => ?_)
          clear hK K
          try simp only [zP, zN, zS, zT, zU]
          refine tkt 8 hHeld ?_
          refine tkt 9 hHeld ?_
          refine tkt 10 hHeld ?_
          refine tkt 11 hHeld ?_
          refine tkt 12 hHeld ?_
          refine rY 13 (fun K hK => ?_)
          go_simp
          go_at_call 27
          refine (HG2.out _).mono ?_
          rintro e w2 ⟨rfl, rfl⟩
          go_wp2_with fail
          refine hK.out _ _ HS1.out (fun hHeld => ?_)
          clear hK K
          try simp only [zP, zN, zS, zT, zU]
          refine tkt 14 hHeld ?_
          refine tkt 15 hHeld ?_
          refine tkt 16 hHeld ?_
          refine tkt 17 hHeld ?_
          refine tkt 18 hHeld ?_
          refine tkt 19 hHeld ?_
          refine tkt 20 hHeld ?_
          refine tkt 21 hHeld ?_
          refine tkt 22 hHeld ?_
          refine tkt 23 hHeld ?_
          refine tkt 24 hHeld ?_
          refine tkt 25 hHeld ?_
          refine tkt 26 hHeld ?_
          refine tkt 27 hHeld ?_
          refine tkt 28 hHeld ?_
          refine tkt 29 hHeld ?_
          refine skt 30 hHeld ?_
          refine skt 31 hHeld ?_
          refine skt 32 hHeld ?_
          refine skt 33 hHeld ?_
          refine skt 34 hHeld ?_
          refine skt 35 hHeld ?_
          refine skt 36 hHeld ?_
          refine skt 37 hHeld ?_
          refine skt 38 hHeld ?_
          refine tkt 39 hHeld ?_
          refine tkt 40 hHeld ?_
          refine yD ?_
          have hkn := HK.out
          go_wp2
          go_roundw
          case rel => exact ⟨1, by have := HK.out; omega, by go_num, ⟨HW.out.then F.out, HNX.out⟩⟩
          case measure => have := HK.out; simp [RowKit.intOf]; omega
        · obtain ⟨z, hz, hz2⟩ := HST.out.2.2.1 (k - 1) (by omega)
          have HP := Lib.hid hz
          have hkm : k - 1 < l.length := by omega
          have HZ := Lib.hid (And.intro (hz2 hkm) (And.intro hk0 hkm))
          have wk : IntKind.i64.wrap ((k : Int) - 1) = ((k - 1 : Nat) : Int) := by rw [IntKind.wrap_i64]; omega
          have qz : ((0 : Int) < (k : Int)) = True := eq_true (by omega)
          have qz2 : (0 < k) = True := eq_true hk0
          have qn : (((k - 1 : Nat) : Int) < (n : Int)) = True := eq_true (by omega)
          have qn2 : (k - 1 < n) = True := eq_true (by omega)
          cases hle : lt z x.d with
          | false =>
            have HNO := Lib.hid (HST.out.2.1 (.inr ⟨HZ.out.2.1, HZ.out.2.2, by rw [← HZ.out.1]; exact hle⟩))
            have hle' : Op.bytesLess z x.d = false := hle
            clear hlt hk hk0 hz hz2 hle
            go_wp2_with fail
            refine wp_region_held_drew (S := (fun w' => w'.cell? ⟨wr.heap.size, 0, none⟩ = some (.string (B x.d)) ∧ w'.cell? ⟨wr.heap.size, 1, none⟩ = some (.int .i64 x.g) ∧ w'.cell? ⟨wr.heap.size, 2, none⟩ = some (.int .i64 x.e) ∧ w'.cell? ⟨wr.heap.size, 3, none⟩ = some (.int .i64 x.t) ∧ w'.cell? ⟨g0, o0 + (k - 1) * 4, none⟩ = some (.string (B z)))) (by kernel_rfl) ?_ (fun hHeld => ?_)
            · exact ⟨HB.out.2.c0, HB.out.2.c1, HB.out.2.c2, HB.out.2.c3, HP.out⟩
            try simp only [zP, zN, zS, zT, zU]
            refine tkt 0 hHeld ?_
            refine tkt 1 hHeld ?_
            refine rY 2 (fun K hK => ?_)
            go_simp
            go_at_call 26
            refine (HFC.out _).mono ?_
            rintro e w1 ⟨rfl, g1⟩
            have f1 := g1.fp
            have b1 := HB.out.2.keep f1 (fun h => h)
            have HS1 := Lib.hid (And.intro b1.c0 (And.intro b1.c1 (And.intro b1.c2 (And.intro b1.c3 (f1.cell HP.out (fun h => h))))))
            have F := Lib.hid (HB.out.1.then f1)
            clear f1 b1 g1
            go_wp2_with fail
            refine hK.out _ _ HS1.out (fun hHeld => ?_)
            clear hK K
            try simp only [zP, zN, zS, zT, zU]
            refine tkt 3 hHeld ?_
            refine tkt 4 hHeld ?_
            refine tkt 5 hHeld ?_
            refine tkt 6 hHeld ?_
            refine rY 7 (fun K hK => ?_)
            go_simp
            go_at_call 27
            refine (HG1.out _).mono ?_
            rintro e w2 ⟨rfl, rfl⟩
            go_wp2_with fail
            refine hK.out _ _ HS1.out (fun hHeld => ?_)
            clear hK K
            try simp only [zP, zN, zS, zT, zU]
            refine tkt 8 hHeld ?_
            refine tkt 9 hHeld ?_
            refine tkt 10 hHeld ?_
            refine tkt 11 hHeld ?_
            refine tkt 12 hHeld ?_
            refine rY 13 (fun K hK => ?_)
            go_simp
            go_at_call 27
            refine (HG2.out _).mono ?_
            rintro e w2 ⟨rfl, rfl⟩
            go_wp2_with fail
            refine hK.out _ _ HS1.out (fun hHeld => ?_)
            clear hK K
            try simp only [zP, zN, zS, zT, zU]
            refine tkt 14 hHeld ?_
            refine tkt 15 hHeld ?_
            refine tkt 16 hHeld ?_
            refine tkt 17 hHeld ?_
            refine tkt 18 hHeld ?_
            refine tkt 19 hHeld ?_
            refine tkt 20 hHeld ?_
            refine tkt 21 hHeld ?_
            refine tkt 22 hHeld ?_
            refine tkt 23 hHeld ?_
            refine tkt 24 hHeld ?_
            refine tkt 25 hHeld ?_
            refine tkt 26 hHeld ?_
            refine tkt 27 hHeld ?_
            refine tkt 28 hHeld ?_
            refine tkt 29 hHeld ?_
            refine tkt 30 hHeld ?_
            refine tkt 31 hHeld ?_
            refine tkt 32 hHeld ?_
            refine tkt 33 hHeld ?_
            refine tkt 34 hHeld ?_
            refine tkt 35 hHeld ?_
            refine tkt 36 hHeld ?_
            refine tkt 37 hHeld ?_
            refine tkt 38 hHeld ?_
            refine tkt 39 hHeld ?_
            refine tkt 40 hHeld ?_
            refine yD ?_
            go_wp2
            go_ret
            exact ⟨ret_bool HNO.out.symm, HW.out.then F.out⟩
          | true =>
            have HNX := Lib.hid (HST.out.1 HFX.out (fun _ h => by rw [← HZ.out.1]; exact hle))
            have hle' : Op.bytesLess z x.d = true := hle
            clear hlt hk hk0 hz hz2 hle
            go_wp2_with fail
            refine wp_region_held_drew (S := (fun w' => w'.cell? ⟨wr.heap.size, 0, none⟩ = some (.string (B x.d)) ∧ w'.cell? ⟨wr.heap.size, 1, none⟩ = some (.int .i64 x.g) ∧ w'.cell? ⟨wr.heap.size, 2, none⟩ = some (.int .i64 x.e) ∧ w'.cell? ⟨wr.heap.size, 3, none⟩ = some (.int .i64 x.t) ∧ w'.cell? ⟨g0, o0 + (k - 1) * 4, none⟩ = some (.string (B z)))) (by kernel_rfl) ?_ (fun hHeld => ?_)
            · exact ⟨HB.out.2.c0, HB.out.2.c1, HB.out.2.c2, HB.out.2.c3, HP.out⟩
            try simp only [zP, zN, zS, zT, zU]
            refine tkt 0 hHeld ?_
            refine tkt 1 hHeld ?_
            refine rY 2 (fun K hK => ?_)
            go_simp
            go_at_call 26
            refine (HFC.out _).mono ?_
            rintro e w1 ⟨rfl, g1⟩
            have f1 := g1.fp
            have b1 := HB.out.2.keep f1 (fun h => h)
            have HS1 := Lib.hid (And.intro b1.c0 (And.intro b1.c1 (And.intro b1.c2 (And.intro b1.c3 (f1.cell HP.out (fun h => h))))))
            have F := Lib.hid (HB.out.1.then f1)
            clear f1 b1 g1
            go_wp2_with fail
            refine hK.out _ _ HS1.out (fun hHeld => ?_)
            clear hK K
            try simp only [zP, zN, zS, zT, zU]
            refine tkt 3 hHeld ?_
            refine tkt 4 hHeld ?_
            refine tkt 5 hHeld ?_
            refine tkt 6 hHeld ?_
            refine rY 7 (fun K hK => ?_)
            go_simp
            go_at_call 27
            refine (HG1.out _).mono ?_
            rintro e w2 ⟨rfl, rfl⟩
            go_wp2_with fail
            refine hK.out _ _ HS1.out (fun hHeld => ?_)
            clear hK K
            try simp only [zP, zN, zS, zT, zU]
            refine tkt 8 hHeld ?_
            refine tkt 9 hHeld ?_
            refine tkt 10 hHeld ?_
            refine tkt 11 hHeld ?_
            refine tkt 12 hHeld ?_
            refine rY 13 (fun K hK => ?_)
            go_simp
            go_at_call 27
            refine (HG2.out _).mono ?_
            rintro e w2 ⟨rfl, rfl⟩
            go_wp2_with fail
            refine hK.out _ _ HS1.out (fun hHeld => ?_)
            clear hK K
            try simp only [zP, zN, zS, zT, zU]
            refine tkt 14 hHeld ?_
            refine tkt 15 hHeld ?_
            refine tkt 16 hHeld ?_
            refine tkt 17 hHeld ?_
            refine tkt 18 hHeld ?_
            refine tkt 19 hHeld ?_
            refine tkt 20 hHeld ?_
            refine tkt 21 hHeld ?_
            refine tkt 22 hHeld ?_
            refine tkt 23 hHeld ?_
            refine tkt 24 hHeld ?_
            refine tkt 25 hHeld ?_
            refine tkt 26 hHeld ?_
            refine tkt 27 hHeld ?_
            refine tkt 28 hHeld ?_
            refine tkt 29 hHeld ?_
            refine tkt 30 hHeld ?_
            refine tkt 31 hHeld ?_
            refine tkt 32 hHeld ?_
            refine tkt 33 hHeld ?_
            refine tkt 34 hHeld ?_
            refine tkt 35 hHeld ?_
            refine tkt 36 hHeld ?_
            refine tkt 37 hHeld ?_
            refine tkt 38 hHeld ?_
            refine tkt 39 hHeld ?_
            refine tkt 40 hHeld ?_
            refine yD ?_
            have hkn := HK.out
            go_wp2
            go_roundw
            case rel => exact ⟨k + 1, by have := HK.out; omega, by go_num, ⟨HW.out.then F.out, HNX.out⟩⟩
            case measure => have := HK.out; simp [RowKit.intOf]; omega
    · have hke : k = n := by omega
      subst hke
      have q3 : ((k : Int) < (k : Int)) = False := eq_false (by omega)
      have HE := Lib.hid (HYes.out (chkM_all (by have := HX.out.1; have := H32.out; omega) HRT.out (fun j hj => hR.out.2 j hj (by rw [HX.out.1]; exact hj))))
      clear hlt hk
      go_wp2
      go_ret
      exact ⟨ret_bool HE.out.symm, hR.out.1⟩
end Go.Proofs.Ytdfnfkknbjageaa

/- The document's own In and Numbered, walked. -/
namespace Go.Proofs.Ytdfnfkknbjageaa
set_option maxRecDepth 20000
open Go.RowKit Pm

theorem inB_false {l q : Bs} (h : (split l).isSome = false ∨ (split q).isSome = false) : inB l q = false := by
  unfold inB
  cases h1 : split l with
  | none => rfl
  | some a => cases h2 : split q with
    | none => rfl
    | some b => rw [h1, h2] at h; simp at h

set_option maxHeartbeats 1000000 in
theorem rIn_loop (l q : Bs) (w : World) (hl : sz l) (hq : sz q) (a b : List Bs) (hs : split l = some a) (ht : split q = some b) (hle : b.length ≤ a.length) :
    Calls Try.prog 29 #[.string (B l), .string (B q)] w fun e w' => e = .returned (.bool (b.isPrefixOf a)) ∧ Gr w w' := by
  have h6 := ((split_iff _ _).1 hs).1.1
  have h6' := ((split_iff _ _).1 ht).1.1
  have HS := Lib.hid hs; clear hs
  have HT := Lib.hid ht; clear ht
  go_enter Try.func29, Try.ntmps29
  go_wp2_with fail
  refine (rSplit_c l w hl).mono ?_
  rintro e w1 ⟨v, rfl, hown, hb⟩
  rw [HS.out] at hown ⊢
  have hown : Own w.heap.size w1 v a := hown
  obtain ⟨ao, cap, rfl⟩ := hown.shape
  go_wp2_with fail
  refine (rSplit_c q w1 hq).mono ?_
  rintro e w2 ⟨v2, rfl, hown2, hb2⟩
  rw [HT.out] at hown2 ⊢
  have hown2 : Own w1.heap.size w2 v2 b := hown2
  obtain ⟨ao2, cap2, rfl⟩ := hown2.shape
  have g2 : Gr w w2 := hb.trans (hb2.mono hb.size)
  have C1 := Lib.hid (fun w3 (g : Gr w1 w3) => hown.cells w3 g)
  have C2 := Lib.hid (fun w3 (g : Gr w2 w3) => hown2.cells w3 g)
  have g12 : Gr w1 w2 := hb2
  have n1 : ao = none → a.length = 0 := by
    intro h; subst h
    cases a with
    | nil => rfl
    | cons p r => obtain ⟨g, c, hv, _⟩ := hown.lies; cases hv
  have hr1 : a.length ≤ cap ∧ cap ≤ 9223372036854775807 := by
    cases a with
    | nil => have := hown.2 rfl; injection this with _ _ h; subst h; simp
    | cons p r => obtain ⟨g, c, hv, _, hli⟩ := hown.lies; injection hv with _ _ h; subst h; exact ⟨hli.room, hli.most⟩
  have hr2 : b.length ≤ cap2 ∧ cap2 ≤ 9223372036854775807 := by
    cases b with
    | nil => have := hown2.2 rfl; injection this with _ _ h; subst h; simp
    | cons p r => obtain ⟨g, c, hv, _, hli⟩ := hown2.lies; injection hv with _ _ h; subst h; exact ⟨hli.room, hli.most⟩
  obtain ⟨hr1, hm1⟩ := hr1
  obtain ⟨hr2, hm2⟩ := hr2
  clear hown hown2 hb hb2 n1
  go_wp2
  go_loopw [9] (fun i wr => ∃ k : Nat, k ≤ b.length ∧ i = .int .i64 k ∧ Dr w2 wr ∧ Hid (∀ j (h : j < b.length) (h' : j < a.length), j < k → b[j] = a[j])) (fun i _ => b.length - (intOf i).toNat)
  case atStart => exact ⟨0, Nat.zero_le _, rfl, Dr.refl _, fun j _ _ h => by omega⟩
  case round =>
    obtain ⟨k, hk, rfl, hd, hall⟩ := hrel
    have gd : Gr w wr := g2.trans (hd.below _)
    by_cases hlt : k < b.length
    · obtain ⟨x1, hx1, e1⟩ := C1.out wr (g12.trans (hd.below _)) k (by omega)
      obtain ⟨x2, hx2, e2⟩ := C2.out wr (hd.below _) k hlt
      subst hx1 hx2
      by_cases hbk : b[k] = a[k]
      · have hnx : Hid (∀ j (h : j < b.length) (h' : j < a.length), j < k + 1 → b[j] = a[j]) := fun j h h' hj => by
          by_cases e : j = k
          · subst e; exact hbk
          · exact hall j h h' (by omega)
        rw [hbk] at e2
        clear hall hbk
        generalize a[k] = x at e1 e2
        have hki : (k : Int) < (a.length : Int) := by omega
        have hkj : (k : Int) < (b.length : Int) := by omega
        go_wp2
        go_quiet (fail)
        go_wp2
        go_roundw
        case rel => exact ⟨k + 1, by omega, by go_num, hd.trans (Dr.of _ _), hnx⟩
        case measure => simp [intOf]; omega
      · have hno : b.isPrefixOf a = false := by
          rw [← Bool.not_eq_true, List.isPrefixOf_iff_prefix]
          intro h
          have := h.getElem hlt
          exact hbk this
        have HN := Lib.hid hno; clear hno hall
        generalize a[k] = x at e1 hbk
        generalize b[k] = y at e2 hbk
        have hxy : (y == x) = false := by rw [beq_eq_false_iff_ne]; exact hbk
        have hki : (k : Int) < (a.length : Int) := by omega
        have hkj : (k : Int) < (b.length : Int) := by omega
        go_wp2
        go_quiet (fail)
        go_wp2
        go_ret
        exact ⟨ret_bool HN.out.symm, gd.drew _⟩
    · have hke : k = b.length := by omega
      subst hke
      have hyes : b.isPrefixOf a = true := by
        rw [List.isPrefixOf_iff_prefix, List.prefix_iff_eq_take]
        apply List.ext_getElem
        · simp; omega
        · intro j h1 h2
          rw [List.getElem_take]
          exact hall j h1 (by omega) h1
      have HY := Lib.hid hyes; clear hyes hall
      go_wp2
      go_ret
      exact ⟨ret_bool HY.out.symm, gd⟩

set_option maxHeartbeats 1000000 in
theorem rIn_no (l q : Bs) (w : World) (hl : sz l) (hq : sz q) (b1 b2 : Bool) (hs : (split l).isSome = b1) (ht : (split q).isSome = b2) (hn : b1 = false ∨ b2 = false) :
    Calls Try.prog 29 #[.string (B l), .string (B q)] w fun e w' => e = .returned (.bool false) ∧ Gr w w' := by
  have HS := Lib.hid hs; clear hs
  have HT := Lib.hid ht; clear ht
  go_enter Try.func29, Try.ntmps29
  go_wp2_with fail
  refine (rSplit_c l w hl).mono ?_
  rintro e w1 ⟨v, rfl, hown, hb⟩
  rw [HS.out]
  go_wp2_with fail
  refine (rSplit_c q w1 hq).mono ?_
  rintro e w2 ⟨v2, rfl, hown2, hb2⟩
  rw [HT.out]
  have g2 : Gr w w2 := hb.trans (hb2.mono hb.size)
  clear hown hown2 hb hb2
  cases b1 with
  | false =>
    go_wp2
    go_ret
    exact ⟨rfl, g2⟩
  | true =>
    have hb2 : b2 = false := by rcases hn with h | h; cases h; exact h
    subst hb2
    go_wp2
    go_ret
    exact ⟨rfl, g2⟩

set_option maxHeartbeats 1000000 in
theorem rIn_long (l q : Bs) (w : World) (hl : sz l) (hq : sz q) (a b : List Bs) (hs : split l = some a) (ht : split q = some b) (hle : a.length < b.length) :
    Calls Try.prog 29 #[.string (B l), .string (B q)] w fun e w' => e = .returned (.bool false) ∧ Gr w w' := by
  have h6 := ((split_iff _ _).1 hs).1.1
  have h6' := ((split_iff _ _).1 ht).1.1
  have HS := Lib.hid hs; clear hs
  have HT := Lib.hid ht; clear ht
  go_enter Try.func29, Try.ntmps29
  go_wp2_with fail
  refine (rSplit_c l w hl).mono ?_
  rintro e w1 ⟨v, rfl, hown, hb⟩
  rw [HS.out] at hown ⊢
  have hown : Own w.heap.size w1 v a := hown
  obtain ⟨ao, cap, rfl⟩ := hown.shape
  go_wp2_with fail
  refine (rSplit_c q w1 hq).mono ?_
  rintro e w2 ⟨v2, rfl, hown2, hb2⟩
  rw [HT.out] at hown2 ⊢
  have hown2 : Own w1.heap.size w2 v2 b := hown2
  obtain ⟨ao2, cap2, rfl⟩ := hown2.shape
  have g2 : Gr w w2 := hb.trans (hb2.mono hb.size)
  clear hown hown2 hb hb2
  go_wp2
  go_ret
  exact ⟨rfl, g2⟩

theorem rIn_g (l q : Bs) (w : World) (hl : sz l) (hq : sz q) :
    Calls Try.prog 29 #[.string (B l), .string (B q)] w fun e w' => e = .returned (.bool (inB l q)) ∧ Gr w w' := by
  cases hs : split l with
  | none =>
    rw [inB_false (Or.inl (by rw [hs]; rfl))]
    exact rIn_no l q w hl hq false _ (by rw [hs]; rfl) rfl (Or.inl rfl)
  | some a =>
    cases ht : split q with
    | none =>
      rw [inB_false (Or.inr (by rw [ht]; rfl))]
      exact rIn_no l q w hl hq _ false rfl (by rw [ht]; rfl) (Or.inr rfl)
    | some b =>
      have e : inB l q = b.isPrefixOf a := by unfold inB; rw [hs, ht]
      rw [e]
      by_cases hle : b.length ≤ a.length
      · exact rIn_loop l q w hl hq a b hs ht hle
      · have hno : b.isPrefixOf a = false := by
          rw [← Bool.not_eq_true, List.isPrefixOf_iff_prefix]; intro h; exact hle h.length_le
        rw [hno]; exact rIn_long l q w hl hq a b hs ht (by omega)

end Go.Proofs.Ytdfnfkknbjageaa

/- The document's Of, Find, Same of mounts (gen_by.py) -/
namespace Go.Proofs.Ytdfnfkknbjageaa
set_option maxRecDepth 20000
set_option linter.unusedVariables false
set_option linter.unusedSimpArgs false
open Go.RowKit Pm

theorem fM : (Try.prog.fieldsOf TM).toList = [⟨ "Prefix", 9, 0, false, "", "", 0⟩, ⟨ "Group", 3, 1, false, "", "", 16⟩, ⟨ "Epoch", 2, 2, false, "", "", 24⟩, ⟨ "To", 3, 3, false, "", "", 32⟩] := by kernel_rfl
theorem eq_mt (w : World) (p p' : ByteArray) (g g' v v' t t' : Int) : (Op.equalIn 10000 TM (.agg #[.string p, .int .i64 g, .int .i64 v, .int .i64 t]) (.agg #[.string p', .int .i64 g', .int .i64 v', .int .i64 t'])).run Try.prog w =
    .ok (decide (p.toList = p'.toList ∧ g = g' ∧ v = v' ∧ t = t')) w := by
  rw [run_equalIn_agg w 9999 TM _ _ (by kernel_rfl) (by kernel_rfl), fM]
  have e2 := fun w a b => run_equalIn_int (P := Try.prog) w 9998 2 .i64 .i64 a b Try.underlying2
  have e4 := fun w a b => run_equalIn_int (P := Try.prog) w 9998 3 .i64 .i64 a b Try.underlying3
  have e3 := fun w a b => run_equalIn_string (P := Try.prog) w 9998 9 a b Try.underlying9
  simp only [Op.eqFields]
  simp [e2, e3, e4, go_sem]
  by_cases h2 : p.toList = p'.toList <;> by_cases h3 : g = g' <;> by_cases h4 : v = v' <;> by_cases h5 : t = t' <;> simp [h2, h3, h4, h5]
theorem eq_mts (w : World) (x y : Mt) : (Op.equalIn 10000 TM (.agg #[.string (B x.d), .int .i64 x.g, .int .i64 x.e, .int .i64 x.t]) (.agg #[.string (B y.d), .int .i64 y.g, .int .i64 y.e, .int .i64 y.t])).run Try.prog w = .ok (decide (x = y)) w := by
  rw [eq_mt]
  congr 1
  simp only [B_list]
  obtain ⟨_, _, _, _⟩ := x
  obtain ⟨_, _, _, _⟩ := y
  simp

/-- Ahead of round k of Same. -/
structure SaMt (a b : List Mt) (w : World) (k : Nat) (wr : World) : Prop where
  fp : Fp Non w wr
  eq : a.take k = b.take k
theorem take_succ_eqt {a b : List Mt} {k : Nat} (ha : k < a.length) (hb : k < b.length) (h : a.take k = b.take k) (e : a[k] = b[k]) : a.take (k + 1) = b.take (k + 1) := by
  rw [List.take_succ_eq_append_getElem ha, List.take_succ_eq_append_getElem hb, h, e]

set_option maxHeartbeats 2000000 in
theorem rSameM_c (va vb : Value) (a b : List Mt) (w : World) (hva : NsM w va a) (hvb : NsM w vb b) (hn : a.length ≤ 140737488355328) (hm : b.length ≤ 140737488355328) :
    Calls Try.prog 13 #[va, vb] w fun e w' => e = .returned (.bool (decide (a = b))) ∧ Fp Non w w' := by
  obtain ⟨ao, ca, rfl⟩ := hva.shape
  obtain ⟨bo, cb, rfl⟩ := hvb.shape
  by_cases hl : a.length = b.length
  · obtain ⟨n, hnn⟩ : ∃ n, n = a.length := ⟨_, rfl⟩
    have hnb : n ≤ 140737488355328 := by omega
    have HX := Lib.hid (And.intro hnn (And.intro (show n = b.length by omega) (And.intro hva hvb)))
    rw [← hl, ← hnn]
    have H0 : Hid (SaMt a b w 0 w) := ⟨Fp.refl _ _, by simp⟩
    have heq := eq_mts
    clear hva hvb hl hn hm hnn
    go_enter Try.func13, Try.ntmps13
    go_wp2_with fail
    go_loopw [5] (fun i wr => ∃ k : Nat, k ≤ n ∧ i = .int .i64 k ∧ Hid (SaMt a b w k wr)) (fun i _ => n - (RowKit.intOf i).toNat)
    case atStart => exact ⟨0, Nat.zero_le _, rfl, H0⟩
    case round =>
      clear H0
      obtain ⟨k, hk, rfl, hR⟩ := hrel
      rename_i wr _
      by_cases hlt : k < n
      · have hka : k < a.length := by rw [← HX.out.1]; exact hlt
        have hkb : k < b.length := by rw [← HX.out.2.1]; exact hlt
        obtain ⟨g, o, cap', e, _, _, _, hcell⟩ := HX.out.2.2.1.at (by omega)
        injection e with e1 e2 e3
        subst e1 e3
        obtain ⟨g', o', cap', e, _, _, _, hcell'⟩ := HX.out.2.2.2.at (by omega)
        injection e with e1 e2 e3
        subst e1 e3
        have hnd := (hcell k hka).keep hR.out.fp (fun h => h)
        have hnd' := (hcell' k hkb).keep hR.out.fp (fun h => h)
        have q3 : ((k : Int) < (n : Int)) = True := eq_true (by omega)
        have q4 : (k < n) = True := eq_true hlt
        have hnx := fun e wr' (f : Fp Non wr wr') => (show SaMt a b w (k + 1) wr' from ⟨hR.out.fp.then f, take_succ_eqt hka hkb hR.out.eq e⟩)
        have hno := fun (e : a[k] ≠ b[k]) => (show a ≠ b from fun h => e (by subst h; rfl))
        have HNX := Lib.hid hnx
        have HNO := Lib.hid hno
        have HL := Lib.hid hlt
        clear hcell hcell' hnx hno hlt
        generalize a[k] = x at *
        generalize b[k] = y at *
        have c0 := hnd.c0; have c1 := hnd.c1; have c2 := hnd.c2; have c3 := hnd.c3
        have d0 := hnd'.c0; have d1 := hnd'.c1; have d2 := hnd'.c2; have d3 := hnd'.c3
        unfold strV at c0 d0
        clear hnd hnd' hka hkb
        by_cases hxy : x = y
        · have q5 : decide (x = y) = true := decide_eq_true hxy
          have q6 : (x = y) = True := eq_true hxy
          have hM := Lib.hid (HNX.out hxy)
          have hj := HL.out
          clear hxy
          go_wp2_with fail
          go_quiet (fail)
          go_wp2
          go_roundw
          case rel => exact ⟨k + 1, by omega, by go_num, hM.out _ ((Fp.refl _ _).drewN _)⟩
          case measure => simp [RowKit.intOf]; omega
        · have q5 : decide (x = y) = false := decide_eq_false hxy
          have q6 : (x = y) = False := eq_false hxy
          have HN := Lib.hid (HNO.out hxy)
          clear hxy
          go_wp2_with fail
          go_quiet (fail)
          go_wp2
          go_ret
          exact ⟨by rw [decide_eq_false HN.out]; rfl, hR.out.fp.drewN _⟩
      · have hke : k = n := by omega
        subst hke
        have q3 : ((k : Int) < (k : Int)) = False := eq_false (by omega)
        have hfin : a = b := by
          have := hR.out.eq
          rw [HX.out.1, List.take_length, ← HX.out.1, HX.out.2.1, List.take_length] at this; exact this
        have HFN := Lib.hid hfin
        clear hlt hk hfin
        go_wp2
        go_ret
        exact ⟨by rw [decide_eq_true HFN.out]; rfl, hR.out.fp⟩
  · have HN := Lib.hid (show a ≠ b from fun h => hl (by rw [h]))
    have q1 : ((a.length : Int) == (b.length : Int)) = false := beq_eq_false_iff_ne.2 (by omega)
    have q2 : ((a.length : Int) = (b.length : Int)) = False := eq_false (by omega)
    have q3 : (a.length == b.length) = false := beq_eq_false_iff_ne.2 hl
    have q4 : (a.length = b.length) = False := eq_false hl
    clear hl hva hvb hn hm
    go_enter Try.func13, Try.ntmps13
    go_wp2
    go_ret
    exact ⟨by rw [decide_eq_false HN.out]; rfl, Fp.refl _ _⟩



set_option maxHeartbeats 8000000 in
theorem rOf_c (v : Value) (l : List Mt) (d : Bs) (w : World) (hv : NsM w v l) (hs : SzM l) (hd : d.length ≤ 140737488355328) :
    Calls Try.prog 17 #[v, .string (B d)] w fun e w' => e = .returned (.int .i64 (idx (ofR l d))) ∧ Fp Non w w' := by
  have h1 := rRightM_c v l w hv hs.p (by have := hs.n; omega)
  obtain ⟨ao, cap, rfl⟩ := hv.shape
  obtain ⟨n, hnn⟩ : ∃ n, n = l.length := ⟨_, rfl⟩
  have hnb : n ≤ 140737488355328 := by have := hs.n; omega
  have HX := Lib.hid (And.intro hnn (And.intro hv hs))
  obtain ⟨z, hz⟩ : ∃ z, ofR l d = z := ⟨_, rfl⟩
  rw [← hnn] at h1 ⊢
  rw [hz]
  have HZ := Lib.hid hz
  have HDB := Lib.hid hd
  have H1 := Lib.hid h1
  clear h1 hv hs hnn hz hd
  go_enter Try.func17, Try.ntmps17
  go_wp2_with fail
  refine H1.out.mono ?_
  rintro e w1 ⟨rfl, hf⟩
  have F1 := Lib.hid hf
  clear hf
  cases hrt : rightM l with
  | false =>
    have hz0 : z = none := by rw [← HZ.out]; unfold ofR; rw [hrt]; rfl
    subst hz0
    clear hrt
    go_wp2
    go_ret
    exact ⟨rfl, F1.out⟩
  | true =>
  have hz1 : z = bk l d n := by rw [← HZ.out, HX.out.1]; unfold ofR; rw [hrt]; rfl
  have HRT := Lib.hid (And.intro ((right_ifft l).1 hrt) hz1)
  clear hrt hz1
  go_wp2_with fail
  go_loopw [5, 6] (fun bv i wr => ∃ k : Nat, k ≤ n ∧ i = .int .i64 k ∧ ∃ b : Option Nat, bv = .int .i64 (idx b) ∧ Hid (b = bk l d k ∧ Fp Non w1 wr)) (fun _ i _ => n - (RowKit.intOf i).toNat)
  case atStart => exact ⟨0, Nat.zero_le _, rfl, none, rfl, ⟨rfl, Fp.refl _ _⟩⟩
  case round =>
    obtain ⟨k, hk, rfl, b, rfl, hR⟩ := hrel
    rename_i wr _
    by_cases hlt : k < n
    · have hkl : k < l.length := by rw [← HX.out.1]; exact hlt
      obtain ⟨g, o, cap', e, _, _, _, hcell⟩ := HX.out.2.1.at (by omega)
      rw [← HX.out.1] at e
      injection e with e1 e2 e3
      subst e1 e3
      have HFR := Lib.hid (Fp.refl Non wr)
      have HFW := Lib.hid hR.out.2
      have hcl := fun i h => (hcell i h).keep (F1.out.then hR.out.2) (fun h => h)
      have c0 := (hcl k hkl).c0
      have hbs := hR.out.1
      have hbk : bk l d (k + 1) = if inB d l[k].d = true then some k else bk l d k := by rw [← inx_at hkl]; rfl
      have hil := fun W => rIn_g d l[k].d W (sz_of HDB.out (by omega)) (sz_of (HX.out.2.2.p _ (List.getElem_mem hkl)) (by omega))
      have hch : ∀ j (hj : j < k), inB d l[k].d = true → inB d (l[j]'(by omega)).d = true → (l[j]'(by omega)).d.length < l[k].d.length := fun j hj h1 h2 => chain_lt h2 h1 (HRT.out.1.up.at (by omega) hkl hj)
      have q5 : ((k : Int) < (n : Int)) = True := eq_true (by omega)
      have q6 : (k < n) = True := eq_true hlt
      obtain ⟨xd, hxd⟩ : ∃ xd, xd = l[k].d := ⟨_, rfl⟩
      rw [← hxd] at c0 hbk hil hch
      unfold strV at c0
      obtain ⟨bb, hbb⟩ : ∃ bb, inB d xd = bb := ⟨_, rfl⟩
      rw [hbb] at hil hbk hch
      have HK := Lib.hid (And.intro hlt (And.intro hbs hbk))
      have HIL := Lib.hid hil
      clear hxd hil hbk hbb hR
      cases bb with
      | false =>
        have HN := Lib.hid (show b = bk l d (k + 1) by rw [HK.out.2.2, HK.out.2.1]; rfl)
        clear hcl hcell hch hbs hkl hlt hk
        go_wp2_with fail
        refine wp_region_held_drew (S := (fun w' => w'.cell? ⟨g, o + k * 4, none⟩ = some (.string (B xd)))) (by kernel_rfl) ?_ (fun hHeld => ?_)
        · exact c0
        try simp only [zP, zN, zS, zT, zU]
        refine tkt 0 hHeld ?_
        refine tkt 1 hHeld ?_
        refine tkt 2 hHeld ?_
        refine tkt 3 hHeld ?_
        refine tkt 4 hHeld ?_
        refine tkt 5 hHeld ?_
        refine rY 6 (fun K hK => ?_)
        go_simp
        go_at_call 29
        refine (HIL.out _).mono ?_
        rintro e w7 ⟨rfl, hg⟩
        have f1 := hg.fp
        have HS1 := Lib.hid (f1.cell hHeld (fun h => h))
        have F := Lib.hid ((HFR.out.drew).then f1)
        clear f1 hg
        go_wp2_with fail
        refine hK.out _ _ HS1.out (fun hHeld => ?_)
        clear hK K
        try simp only [zP, zN, zS, zT, zU]
        refine tkt 7 hHeld ?_
        refine skt 8 hHeld ?_
        refine skt 9 hHeld ?_
        refine skt 10 hHeld ?_
        refine skt 11 hHeld ?_
        refine skt 12 hHeld ?_
        refine skt 13 hHeld ?_
        refine skt 14 hHeld ?_
        refine skt 15 hHeld ?_
        refine skt 16 hHeld ?_
        refine skt 17 hHeld ?_
        refine skt 18 hHeld ?_
        refine skt 19 hHeld ?_
        refine skt 20 hHeld ?_
        refine skt 21 hHeld ?_
        refine skt 22 hHeld ?_
        refine skt 23 hHeld ?_
        refine skt 24 hHeld ?_
        refine tkt 25 hHeld ?_
        refine yD ?_
        have hkn := HK.out.1
        go_wp2
        go_roundw
        case rel => exact ⟨k + 1, by omega, by go_num, b, rfl, ⟨HN.out, HFW.out.then F.out⟩⟩
        case measure => simp [RowKit.intOf]; omega
      | true =>
        have HN := Lib.hid (show some k = bk l d (k + 1) by rw [HK.out.2.2]; rfl)
        cases b with
        | none =>
          clear hcl hcell hch hbs hkl hlt hk
          simp only [idx]
          go_wp2_with fail
          refine wp_region_held_drew (S := (fun w' => w'.cell? ⟨g, o + k * 4, none⟩ = some (.string (B xd)))) (by kernel_rfl) ?_ (fun hHeld => ?_)
          · exact c0
          try simp only [zP, zN, zS, zT, zU]
          refine tkt 0 hHeld ?_
          refine tkt 1 hHeld ?_
          refine tkt 2 hHeld ?_
          refine tkt 3 hHeld ?_
          refine tkt 4 hHeld ?_
          refine tkt 5 hHeld ?_
          refine rY 6 (fun K hK => ?_)
          go_simp
          go_at_call 29
          refine (HIL.out _).mono ?_
          rintro e w7 ⟨rfl, hg⟩
          have f1 := hg.fp
          have HS1 := Lib.hid (f1.cell hHeld (fun h => h))
          have F := Lib.hid ((HFR.out.drew).then f1)
          clear f1 hg
          go_wp2_with fail
          refine hK.out _ _ HS1.out (fun hHeld => ?_)
          clear hK K
          try simp only [zP, zN, zS, zT, zU]
          refine tkt 7 hHeld ?_
          refine tkt 8 hHeld ?_
          refine tkt 9 hHeld ?_
          refine tkt 10 hHeld ?_
          refine skt 11 hHeld ?_
          refine skt 12 hHeld ?_
          refine skt 13 hHeld ?_
          refine skt 14 hHeld ?_
          refine skt 15 hHeld ?_
          refine skt 16 hHeld ?_
          refine skt 17 hHeld ?_
          refine skt 18 hHeld ?_
          refine skt 19 hHeld ?_
          refine skt 20 hHeld ?_
          refine skt 21 hHeld ?_
          refine skt 22 hHeld ?_
          refine skt 23 hHeld ?_
          refine tkt 24 hHeld ?_
          refine tkt 25 hHeld ?_
          refine yD ?_
          have hkn := HK.out.1
          go_wp2
          go_roundw
          case rel => exact ⟨k + 1, by omega, by go_num, some k, rfl, ⟨HN.out, HFW.out.then F.out⟩⟩
          case measure => simp [RowKit.intOf]; omega
        | some j =>
          have hb2 := bk_some hbs.symm
          have hjl : j < l.length := by omega
          have d0 := (hcl j hjl).c0
          have hin : inB d l[j].d = true := by rw [← inx_at hjl]; exact hb2.2
          have hlen := hch j hb2.1 rfl hin
          obtain ⟨yd, hyd⟩ : ∃ yd, yd = l[j].d := ⟨_, rfl⟩
          rw [← hyd] at d0 hlen
          unfold strV at d0
          have q7 : ((j : Int) < 0) = False := eq_false (by omega)
          have q8 : ((yd.length : Int) < (xd.length : Int)) = True := eq_true (by omega)
          have q9 : (yd.length < xd.length) = True := eq_true hlen
          have q10 : ((j : Int) < (n : Int)) = True := eq_true (by omega)
          have q11 : (j < n) = True := eq_true (by omega)
          clear hcl hcell hch hbs hyd hin hb2 hjl hlen hkl hlt hk
          simp only [idx]
          go_wp2_with fail
          refine wp_region_held_drew (S := (fun w' => w'.cell? ⟨g, o + k * 4, none⟩ = some (.string (B xd)) ∧ w'.cell? ⟨g, o + j * 4, none⟩ = some (.string (B yd)))) (by kernel_rfl) ?_ (fun hHeld => ?_)
          · exact ⟨c0, d0⟩
          try simp only [zP, zN, zS, zT, zU]
          refine tkt 0 hHeld ?_
          refine tkt 1 hHeld ?_
          refine tkt 2 hHeld ?_
          refine tkt 3 hHeld ?_
          refine tkt 4 hHeld ?_
          refine tkt 5 hHeld ?_
          refine rY 6 (fun K hK => ?_)
          go_simp
          go_at_call 29
          refine (HIL.out _).mono ?_
          rintro e w7 ⟨rfl, hg⟩
          have f1 := hg.fp
          have HS1 := Lib.hid (And.intro (f1.cell hHeld.1 (fun h => h)) (f1.cell hHeld.2 (fun h => h)))
          have F := Lib.hid ((HFR.out.drew).then f1)
          clear f1 hg
          go_wp2_with fail
          refine hK.out _ _ HS1.out (fun hHeld => ?_)
          clear hK K
          try simp only [zP, zN, zS, zT, zU]
          refine tkt 7 hHeld ?_
          refine tkt 8 hHeld ?_
          refine tkt 9 hHeld ?_
          refine tkt 10 hHeld ?_
          refine tkt 11 hHeld ?_
          refine tkt 12 hHeld ?_
          refine tkt 13 hHeld ?_
          refine tkt 14 hHeld ?_
          refine tkt 15 hHeld ?_
          refine tkt 16 hHeld ?_
          refine tkt 17 hHeld ?_
          refine tkt 18 hHeld ?_
          refine tkt 19 hHeld ?_
          refine tkt 20 hHeld ?_
          refine tkt 21 hHeld ?_
          refine tkt 22 hHeld ?_
          refine tkt 23 hHeld ?_
          refine tkt 24 hHeld ?_
          refine tkt 25 hHeld ?_
          refine yD ?_
          have hkn := HK.out.1
          go_wp2
          go_roundw
          case rel => exact ⟨k + 1, by omega, by go_num, some k, rfl, ⟨HN.out, HFW.out.then F.out⟩⟩
          case measure => simp [RowKit.intOf]; omega
    · have hke : k = n := by omega
      subst hke
      have q5 : ((k : Int) < (k : Int)) = False := eq_false (by omega)
      have HE := Lib.hid (show b = z by rw [hR.out.1, HRT.out.2])
      have HFZ := Lib.hid (F1.out.then hR.out.2)
      clear hlt hk hR
      go_wp2
      go_ret
      exact ⟨by rw [HE.out]; rfl, HFZ.out⟩


end Go.Proofs.Ytdfnfkknbjageaa

