/- mounts.Right (gen_bc.py) -/
import Derived.Test.YtajgjhkienhpjaaBb
import Derived.Test.YtajgjhkienhpjaaBz
namespace Go.Proofs.Ytajgjhkienhpjaa
set_option maxRecDepth 20000
set_option linter.unusedVariables false
set_option linter.unusedSimpArgs false
open Go.RowKit Pm


theorem bxM (wr : World) (x : Mt) : NdAtM (wr.alloc (Obj.cells #[.string (B x.d), .int .i64 x.g, .int .i64 x.e, .int .i64 x.t] TM)).drew wr.heap.size 0 x := (BxM.new wr x).nd.keep ((Fp.refl Non _).drew) (fun h => h)
theorem notUp {a z : Bs} (h : (Op.bytesLess a z || a == z) = true) : lt z a = false := by
  simp only [Bool.or_eq_true, beq_iff_eq] at h
  rcases h with h | rfl
  · exact lt_asymm h
  · exact lt_irrefl _
theorem isUp {a z : Bs} (h : (Op.bytesLess a z || a == z) = false) : lt z a = true := by
  simp only [Bool.or_eq_false_iff, beq_eq_false_iff_ne] at h
  exact lt_of h.1 h.2
/-- One mount in a list. -/
def ChkM (l : List Mt) (j : Nat) (hj : j < l.length) : Prop := okM l[j] = true ∧ (0 < j → ∀ h : j - 1 < l.length, lt l[j-1].d l[j].d = true)
theorem chkM_right {l : List Mt} (h : RtM l) : ∀ j (hj : j < l.length), ChkM l j hj := fun j hj =>
  ⟨h.ok _ (List.getElem_mem hj), fun h0 h1 => h.up.at h1 hj (by omega)⟩
theorem up_of {l : List Mt} (h : ∀ i (hi : i + 1 < l.length), lt l[i].d l[i + 1].d = true) : UpM l := List.pairwise_iff_getElem.2 (fun i j hi hj hij => by
  induction j with
  | zero => omega
  | succ j ih =>
    rcases Nat.lt_or_eq_of_le (show i ≤ j by omega) with e | e
    · exact lt_trans (ih (by omega) e) (h j hj)
    · subst e; exact h i hj)
theorem chkM_all {l : List Mt} (h32 : l.length ≤ 32) (hr : ∃ h : 0 < l.length, l[0].d = [47]) (h : ∀ j (hj : j < l.length), ChkM l j hj) : RtM l :=
  ⟨h32, fun n hn => by obtain ⟨i, hi, rfl⟩ := List.getElem_of_mem hn; exact (h i hi).1, up_of fun i hi => by have := (h (i + 1) hi).2 (by omega) (by omega); simpa using this,
   by obtain ⟨h0, e⟩ := hr
      cases l with
      | nil => simp at h0
      | cons x r => exact ⟨x, r, rfl, by simpa using e⟩⟩

set_option maxHeartbeats 16000000 in
theorem RightM_c (v : Value) (l : List Mt) (w : World) (hv : NsM w v l) (hs : ∀ x ∈ l, x.d.length ≤ 1000000) (hn : l.length ≤ 140737488355328) :
    Calls Try.prog 20 #[v] w fun e w' => e = .returned (.bool (rightM l)) ∧ Fp Non w w' := by
  obtain ⟨ao, cap, rfl⟩ := hv.shape
  obtain ⟨n, hnn⟩ : ∃ n, n = l.length := ⟨_, rfl⟩
  obtain ⟨r, hr⟩ : ∃ r, rightM l = r := ⟨_, rfl⟩
  have hno : ¬ RtM l → r = false := fun h => by
    cases e : r with
    | false => rfl
    | true => rw [e] at hr; exact absurd ((right_iff l).1 hr) h
  have HNone := Lib.hid (show ∀ k (hk : k < l.length), ¬ ChkM l k hk → r = false from fun k hk h => hno (fun c => h (chkM_right c k hk)))
  have HYes := Lib.hid (show RtM l → r = true from fun h => by rw [← hr]; exact (right_iff l).2 h)
  have HLong := Lib.hid (show 32 < l.length → r = false from fun h => hno (fun c => by have := c.len; omega))
  have HEmpty := Lib.hid (show l.length = 0 → r = false from fun h => hno (fun c => by have := c.pos; omega))
  have HRoot := Lib.hid (show ∀ h : 0 < l.length, l[0].d ≠ [47] → r = false from fun h e => hno (fun c => by obtain ⟨x, r, rfl, h2⟩ := c.root; exact e h2))
  have HX := Lib.hid (And.intro hnn (And.intro hv hs))
  rw [hr, ← hnn]
  have hnb : n ≤ 140737488355328 := by omega
  clear hv hs hn hnn hr hno
  go_enter Try.func20, Try.ntmps20
  by_cases h00 : n = 0
  · have HE := Lib.hid (HEmpty.out (by rw [← HX.out.1]; exact h00))
    subst h00
    go_wp2
    go_ret
    exact ⟨ret_bool HE.out.symm, Fp.refl _ _⟩
  have q01 : ((n : Int) == 0) = false := beq_eq_false_iff_ne.2 (by omega)
  have q02 : ((n : Int) = 0) = False := eq_false (by omega)
  have q03 : (n == 0) = false := beq_eq_false_iff_ne.2 h00
  have q04 : (n = 0) = False := eq_false h00
  by_cases h32 : 32 < n
  · have q1 : ((32 : Int) < (n : Int)) = True := eq_true (by omega)
    have q2 : (32 < n) = True := eq_true h32
    have HE := Lib.hid (HLong.out (by rw [← HX.out.1]; exact h32))
    clear h32 h00
    go_wp2
    go_ret
    exact ⟨ret_bool HE.out.symm, Fp.refl _ _⟩
  have q1 : ((32 : Int) < (n : Int)) = False := eq_false (by omega)
  have q2 : (32 < n) = False := eq_false h32
  have qp1 : ((0 : Int) < (n : Int)) = True := eq_true (by omega)
  have qp2 : (0 < n) = True := eq_true (by omega)
  have H32 := Lib.hid (And.intro h32 h00)
  have h0l : 0 < l.length := by rw [← HX.out.1]; omega
  obtain ⟨g0, o0, cap0, e0, _, _, _, hcell0⟩ := HX.out.2.1.at h0l
  injection e0 with e1 e2 e3
  subst e1 e3
  have z0 := (hcell0 0 h0l).c0
  rw [Nat.zero_mul, Nat.add_zero] at z0
  have hroot := HRoot.out h0l
  obtain ⟨d0, hd0⟩ : ∃ d, d = (l[0]).d := ⟨_, rfl⟩
  rw [← hd0] at z0 hroot
  unfold strV at z0
  by_cases hrt : ¬ d0 = [47]
  · have HE := Lib.hid (hroot hrt)
    have qr : (d0 == [47]) = false := beq_eq_false_iff_ne.2 hrt
    have qr2 : (d0 = [47]) = False := eq_false hrt
    clear h32 h00 hroot hd0 hcell0 h0l hrt e2
    go_wp2
    go_ret
    exact ⟨ret_bool HE.out.symm, Fp.refl _ _⟩
  have hrt := Decidable.not_not.1 hrt
  have HRT := Lib.hid (show ∃ h : 0 < l.length, l[0].d = [47] from ⟨h0l, by rw [← hd0]; exact hrt⟩)
  subst hrt
  clear h32 h00 hroot hd0 hcell0 h0l e2
  go_wp2_with fail
  clear z0
  go_loopw [22] (fun i wr => ∃ k : Nat, k ≤ n ∧ i = .int .i64 k ∧ Hid (Fp Non w wr ∧ ∀ j (hj : j < l.length), j < k → ChkM l j hj)) (fun i _ => n - (RowKit.intOf i).toNat)
  case atStart => exact ⟨0, Nat.zero_le _, rfl, Fp.refl _ _, fun j _ h => absurd h (Nat.not_lt_zero j)⟩
  case round =>
    obtain ⟨k, hk, rfl, hR⟩ := hrel
    rename_i wr _
    by_cases hlt : k < n
    · have hkl : k < l.length := by rw [← HX.out.1]; exact hlt
      obtain ⟨g, o, cap', e, _, _, _, hcell⟩ := HX.out.2.1.at (by omega)
      injection e with e1 e2 e3
      injection e1 with e1
      injection e1 with e4 e5
      subst e4 e5 e3
      clear e2
      have f0 := hR.out.1
      have hnd := (hcell k hkl).keep f0 (fun h => h)
      obtain ⟨x, hx⟩ : ∃ x, x = l[k] := ⟨_, rfl⟩
      rw [← hx] at hnd
      have c0 := hnd.c0; have c1 := hnd.c1; have c2 := hnd.c2; have c3 := hnd.c3
      unfold strV at c0
      have q3 : ((k : Int) < (n : Int)) = True := eq_true (by omega)
      have q4 : (k < n) = True := eq_true hlt
      have hxp : x.d.length ≤ 1000000 := HX.out.2.2 x (by rw [hx]; exact List.getElem_mem hkl)
      have hfc := fun w => fits_c x w hxp
      unfold mtV strV at hfc
      have hbb := bxM wr x
      have HB := Lib.hid (And.intro (((Fp.refl Non wr).alloc (Obj.cells #[.string (B x.d), .int .i64 x.g, .int .i64 x.e, .int .i64 x.t] TM)).drew) hbb)
      have HW := Lib.hid (f0)
      have HK := Lib.hid hlt
      have hpc : ∀ k', k' < l.length → ∃ z, (wr.alloc (Obj.cells #[.string (B x.d), .int .i64 x.g, .int .i64 x.e, .int .i64 x.t] TM)).drew.cell? ⟨g0, o0 + k' * 4, none⟩ = some (.string (B z)) ∧ ∀ h : k' < l.length, z = (l[k']).d := fun k' h => ⟨_, HB.out.1.cell ((hcell k' h).keep f0 (fun h => h)).c0 (fun h => h), fun _ => rfl⟩
      have hold := hR.out.2
      have hstep : okM x = true → (0 < k → ∀ h : k - 1 < l.length, lt (l[k-1]).d x.d = true) → ∀ j (hj : j < l.length), j < k + 1 → ChkM l j hj := fun a b j hj hjk => by
        rcases Nat.lt_or_eq_of_le (show j ≤ k by omega) with e | e
        · exact hold j hj e
        · subst e; exact ⟨by rw [← hx]; exact a, fun h0 h1 => by rw [← hx]; exact b h0 h1⟩
      have hno : (okM x = false ∨ (0 < k ∧ ∃ h : k - 1 < l.length, lt (l[k-1]).d x.d = false)) → r = false := fun h => HNone.out k hkl (fun c => by
        rcases h with h | ⟨h0, h1, h2⟩
        · have := c.1; rw [← hx, h] at this; cases this
        · have := c.2 h0 h1; rw [← hx, h2] at this; cases this)
      obtain ⟨fx, hfx⟩ : ∃ b, okM x = b := ⟨_, rfl⟩
      rw [hfx] at hfc hstep hno
      have HFC := Lib.hid hfc
      have HST := Lib.hid (And.intro hstep (And.intro hno (And.intro hpc hkl)))
      clear hfc hbb hpc hold hstep hno hfx hxp hx hnd hcell f0
      cases fx with
      | false =>
        have HNO := Lib.hid (HST.out.2.1 (.inl rfl))
        clear hkl hlt hk
        go_wp2_with fail
        refine wp_region_held_drew (S := (fun w' => w'.cell? ⟨wr.heap.size, 0, none⟩ = some (.string (B x.d)) ∧ w'.cell? ⟨wr.heap.size, 1, none⟩ = some (.int .i64 x.g) ∧ w'.cell? ⟨wr.heap.size, 2, none⟩ = some (.int .i64 x.e) ∧ w'.cell? ⟨wr.heap.size, 3, none⟩ = some (.int .i64 x.t))) (by kernel_rfl) ?_ (fun hHeld => ?_)
        · exact ⟨HB.out.2.c0, HB.out.2.c1, HB.out.2.c2, HB.out.2.c3⟩
        try simp only [zP, zN, zS, zT, zU]
        refine tk 0 hHeld ?_
        refine rY 1 (fun K hK => ?_)
        go_simp
        go_at_call 30
        refine (HFC.out _).mono ?_
        rintro e w1 ⟨rfl, f1⟩
        have b1 := HB.out.2.keep f1 (fun h => h)
        have HS1 := Lib.hid (And.intro b1.c0 (And.intro b1.c1 (And.intro b1.c2 b1.c3)))
        have F := Lib.hid (HB.out.1.then f1)
        clear f1 b1
        go_wp2_with fail
        refine hK.out _ _ HS1.out (fun hHeld => ?_)
        clear hK K
        try simp only [zP, zN, zS, zT, zU]
        refine tk 2 hHeld ?_
        refine tk 3 hHeld ?_
        refine sk 4 hHeld ?_
        refine sk 5 hHeld ?_
        refine sk 6 hHeld ?_
        refine sk 7 hHeld ?_
        refine sk 8 hHeld ?_
        refine sk 9 hHeld ?_
        refine sk 10 hHeld ?_
        refine sk 11 hHeld ?_
        refine sk 12 hHeld ?_
        refine sk 13 hHeld ?_
        refine sk 14 hHeld ?_
        refine sk 15 hHeld ?_
        refine sk 16 hHeld ?_
        refine tk 17 hHeld ?_
        refine yD ?_
        go_wp2
        go_ret
        exact ⟨ret_bool HNO.out.symm, HW.out.then F.out⟩
      | true =>
        rcases Nat.eq_zero_or_pos k with hk0 | hk0
        · subst hk0
          simp only [Nat.zero_mul, Nat.add_zero] at c0 c1 c2 c3
          have HNX := Lib.hid (HST.out.1 rfl (fun h => absurd h (by omega)))
          clear hkl hlt hk
          go_wp2_with fail
          refine wp_region_held_drew (S := (fun w' => w'.cell? ⟨wr.heap.size, 0, none⟩ = some (.string (B x.d)) ∧ w'.cell? ⟨wr.heap.size, 1, none⟩ = some (.int .i64 x.g) ∧ w'.cell? ⟨wr.heap.size, 2, none⟩ = some (.int .i64 x.e) ∧ w'.cell? ⟨wr.heap.size, 3, none⟩ = some (.int .i64 x.t))) (by kernel_rfl) ?_ (fun hHeld => ?_)
          · exact ⟨HB.out.2.c0, HB.out.2.c1, HB.out.2.c2, HB.out.2.c3⟩
          try simp only [zP, zN, zS, zT, zU]
          refine tk 0 hHeld ?_
          refine rY 1 (fun K hK => ?_)
          go_simp
          go_at_call 30
          refine (HFC.out _).mono ?_
          rintro e w1 ⟨rfl, f1⟩
          have b1 := HB.out.2.keep f1 (fun h => h)
          have HS1 := Lib.hid (And.intro b1.c0 (And.intro b1.c1 (And.intro b1.c2 b1.c3)))
          have F := Lib.hid (HB.out.1.then f1)
          clear f1 b1
          go_wp2_with fail
          refine hK.out _ _ HS1.out (fun hHeld => ?_)
          clear hK K
          try simp only [zP, zN, zS, zT, zU]
          refine tk 2 hHeld ?_
          refine tk 3 hHeld ?_
          refine tk 4 hHeld ?_
          refine tk 5 hHeld ?_
          refine tk 6 hHeld ?_
          refine sk 7 hHeld ?_
          refine sk 8 hHeld ?_
          refine sk 9 hHeld ?_
          refine sk 10 hHeld ?_
          refine sk 11 hHeld ?_
          refine sk 12 hHeld ?_
          refine sk 13 hHeld ?_
          refine sk 14 hHeld ?_
          refine sk 15 hHeld ?_
          refine tk 16 hHeld ?_
          refine tk 17 hHeld ?_
          refine yD ?_
          have hkn := HK.out
          go_wp2
          go_roundw
          case rel => exact ⟨1, by have := HK.out; omega, by go_num, ⟨HW.out.then F.out, HNX.out⟩⟩
          case measure => have := HK.out; simp [RowKit.intOf]; omega
        · obtain ⟨z, hz, hz2⟩ := HST.out.2.2.1 (k - 1) (by omega)
          have HP := Lib.hid hz
          have hkm : k - 1 < l.length := by omega
          have HZ := Lib.hid (And.intro (hz2 hkm) (And.intro hk0 hkm))
          have wk : IntKind.i64.wrap ((k : Int) - 1) = ((k - 1 : Nat) : Int) := by rw [IntKind.wrap_i64]; omega
          have qz : ((0 : Int) < (k : Int)) = True := eq_true (by omega)
          have qz2 : (0 < k) = True := eq_true hk0
          have qn : (((k - 1 : Nat) : Int) < (n : Int)) = True := eq_true (by omega)
          have qn2 : (k - 1 < n) = True := eq_true (by omega)
          by_cases hle : (Op.bytesLess x.d z || x.d == z) = true
          · have HNO := Lib.hid (HST.out.2.1 (.inr ⟨HZ.out.2.1, HZ.out.2.2, by rw [← HZ.out.1]; exact notUp hle⟩))
            clear hlt hk hk0 hz hz2
            go_wp2_with fail
            refine wp_region_held_drew (S := (fun w' => w'.cell? ⟨wr.heap.size, 0, none⟩ = some (.string (B x.d)) ∧ w'.cell? ⟨wr.heap.size, 1, none⟩ = some (.int .i64 x.g) ∧ w'.cell? ⟨wr.heap.size, 2, none⟩ = some (.int .i64 x.e) ∧ w'.cell? ⟨wr.heap.size, 3, none⟩ = some (.int .i64 x.t) ∧ w'.cell? ⟨g0, o0 + (k - 1) * 4, none⟩ = some (.string (B z)))) (by kernel_rfl) ?_ (fun hHeld => ?_)
            · exact ⟨HB.out.2.c0, HB.out.2.c1, HB.out.2.c2, HB.out.2.c3, HP.out⟩
            try simp only [zP, zN, zS, zT, zU]
            refine tk 0 hHeld ?_
            refine rY 1 (fun K hK => ?_)
            go_simp
            go_at_call 30
            refine (HFC.out _).mono ?_
            rintro e w1 ⟨rfl, f1⟩
            have b1 := HB.out.2.keep f1 (fun h => h)
            have HS1 := Lib.hid (And.intro b1.c0 (And.intro b1.c1 (And.intro b1.c2 (And.intro b1.c3 (f1.cell HP.out (fun h => h))))))
            have F := Lib.hid (HB.out.1.then f1)
            clear f1 b1
            go_wp2_with fail
            refine hK.out _ _ HS1.out (fun hHeld => ?_)
            clear hK K
            try simp only [zP, zN, zS, zT, zU]
            refine tk 2 hHeld ?_
            refine tk 3 hHeld ?_
            refine tk 4 hHeld ?_
            refine tk 5 hHeld ?_
            refine tk 6 hHeld ?_
            refine tk 7 hHeld ?_
            refine tk 8 hHeld ?_
            refine tk 9 hHeld ?_
            refine tk 10 hHeld ?_
            refine tk 11 hHeld ?_
            refine tk 12 hHeld ?_
            refine tk 13 hHeld ?_
            refine tk 14 hHeld ?_
            refine tk 15 hHeld ?_
            refine tk 16 hHeld ?_
            refine tk 17 hHeld ?_
            refine yD ?_
            go_wp2
            go_ret
            exact ⟨ret_bool HNO.out.symm, HW.out.then F.out⟩
          · have hle' : (Op.bytesLess x.d z || x.d == z) = false := by simpa using hle
            have HNX := Lib.hid (HST.out.1 rfl (fun _ h => by rw [← HZ.out.1]; exact isUp hle'))
            clear hlt hk hk0 hz hz2 hle
            go_wp2_with fail
            refine wp_region_held_drew (S := (fun w' => w'.cell? ⟨wr.heap.size, 0, none⟩ = some (.string (B x.d)) ∧ w'.cell? ⟨wr.heap.size, 1, none⟩ = some (.int .i64 x.g) ∧ w'.cell? ⟨wr.heap.size, 2, none⟩ = some (.int .i64 x.e) ∧ w'.cell? ⟨wr.heap.size, 3, none⟩ = some (.int .i64 x.t) ∧ w'.cell? ⟨g0, o0 + (k - 1) * 4, none⟩ = some (.string (B z)))) (by kernel_rfl) ?_ (fun hHeld => ?_)
            · exact ⟨HB.out.2.c0, HB.out.2.c1, HB.out.2.c2, HB.out.2.c3, HP.out⟩
            try simp only [zP, zN, zS, zT, zU]
            refine tk 0 hHeld ?_
            refine rY 1 (fun K hK => ?_)
            go_simp
            go_at_call 30
            refine (HFC.out _).mono ?_
            rintro e w1 ⟨rfl, f1⟩
            have b1 := HB.out.2.keep f1 (fun h => h)
            have HS1 := Lib.hid (And.intro b1.c0 (And.intro b1.c1 (And.intro b1.c2 (And.intro b1.c3 (f1.cell HP.out (fun h => h))))))
            have F := Lib.hid (HB.out.1.then f1)
            clear f1 b1
            go_wp2_with fail
            refine hK.out _ _ HS1.out (fun hHeld => ?_)
            clear hK K
            try simp only [zP, zN, zS, zT, zU]
            refine tk 2 hHeld ?_
            refine tk 3 hHeld ?_
            refine tk 4 hHeld ?_
            refine tk 5 hHeld ?_
            refine tk 6 hHeld ?_
            refine tk 7 hHeld ?_
            refine tk 8 hHeld ?_
            refine tk 9 hHeld ?_
            refine tk 10 hHeld ?_
            refine tk 11 hHeld ?_
            refine tk 12 hHeld ?_
            refine tk 13 hHeld ?_
            refine tk 14 hHeld ?_
            refine tk 15 hHeld ?_
            refine tk 16 hHeld ?_
            refine tk 17 hHeld ?_
            refine yD ?_
            have hkn := HK.out
            go_wp2
            go_roundw
            case rel => exact ⟨k + 1, by have := HK.out; omega, by go_num, ⟨HW.out.then F.out, HNX.out⟩⟩
            case measure => have := HK.out; simp [RowKit.intOf]; omega
    · have hke : k = n := by omega
      subst hke
      have q3 : ((k : Int) < (k : Int)) = False := eq_false (by omega)
      have HE := Lib.hid (HYes.out (chkM_all (by have := HX.out.1; have := H32.out; omega) HRT.out (fun j hj => hR.out.2 j hj (by rw [HX.out.1]; exact hj))))
      clear hlt hk
      go_wp2
      go_ret
      exact ⟨ret_bool HE.out.symm, hR.out.1⟩
end Go.Proofs.Ytajgjhkienhpjaa
