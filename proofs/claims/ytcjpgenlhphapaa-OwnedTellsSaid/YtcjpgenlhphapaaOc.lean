/- owned.Right (gen_oc.py) -/
import Derived.Test.YtcjpgenlhphapaaOb
import Derived.Test.YtcjpgenlhphapaaOz
namespace Go.Proofs.Ytcjpgenlhphapaa
set_option maxRecDepth 20000
set_option linter.unusedVariables false
set_option linter.unusedSimpArgs false
open Go.RowKit Pm


theorem bxH (wr : World) (x : Hl) : NdAtH (wr.alloc (Obj.cells #[.string (B x.d), .int .i64 x.t, .int .i64 x.a] TH)).drew wr.heap.size 0 x := by
  have h := heap_alloc_new wr (Obj.cells #[.string (B x.d), .int .i64 x.t, .int .i64 x.a] TH)
  have hb : NdAtH (wr.alloc (Obj.cells #[.string (B x.d), .int .i64 x.t, .int .i64 x.a] TH)) wr.heap.size 0 x := ⟨by rw [cell_of_row _ _ _ _ _ _ h]; rfl, by rw [cell_of_row _ _ _ _ _ _ h]; rfl, by rw [cell_of_row _ _ _ _ _ _ h]; rfl⟩
  exact hb.keep ((Fp.refl Non _).drew) (fun h => h)
theorem notUp {a z : Bs} (h : (Op.bytesLess a z || a == z) = true) : lt z a = false := by
  simp only [Bool.or_eq_true, beq_iff_eq] at h
  rcases h with h | rfl
  · exact lt_asymm h
  · exact lt_irrefl _
theorem isUp {a z : Bs} (h : (Op.bytesLess a z || a == z) = false) : lt z a = true := by
  simp only [Bool.or_eq_false_iff, beq_eq_false_iff_ne] at h
  exact lt_of h.1 h.2
/-- One range in a list. -/
def ChkH (l : List Hl) (j : Nat) (hj : j < l.length) : Prop := okH l[j] = true ∧ (0 < j → ∀ h : j - 1 < l.length, lt l[j-1].d l[j].d = true)
theorem chkH_right {l : List Hl} (h : RtH l) : ∀ j (hj : j < l.length), ChkH l j hj := fun j hj =>
  ⟨h.ok _ (List.getElem_mem hj), fun h0 h1 => h.up.at h1 hj (by omega)⟩
theorem up_of {l : List Hl} (h : ∀ i (hi : i + 1 < l.length), lt l[i].d l[i + 1].d = true) : UpH l := List.pairwise_iff_getElem.2 (fun i j hi hj hij => by
  induction j with
  | zero => omega
  | succ j ih =>
    rcases Nat.lt_or_eq_of_le (show i ≤ j by omega) with e | e
    · exact lt_trans (ih (by omega) e) (h j hj)
    · subst e; exact h i hj)
theorem chkH_all {l : List Hl} (h32 : l.length ≤ 32) (h : ∀ j (hj : j < l.length), ChkH l j hj) : RtH l :=
  ⟨h32, fun n hn => by obtain ⟨i, hi, rfl⟩ := List.getElem_of_mem hn; exact (h i hi).1, up_of fun i hi => by have := (h (i + 1) hi).2 (by omega) (by omega); simpa using this⟩

set_option maxHeartbeats 16000000 in
theorem RightH_c (v : Value) (l : List Hl) (w : World) (hv : NsH w v l) (hs : ∀ x ∈ l, x.d.length ≤ 1000000) (hn : l.length ≤ 1000000) :
    Calls Try.prog 17 #[v] w fun e w' => e = .returned (.bool (rightH l)) ∧ Fp Non w w' := by
  obtain ⟨ao, cap, rfl⟩ := hv.shape
  obtain ⟨n, hnn⟩ : ∃ n, n = l.length := ⟨_, rfl⟩
  obtain ⟨r, hr⟩ : ∃ r, rightH l = r := ⟨_, rfl⟩
  have hno : ¬ RtH l → r = false := fun h => by
    cases e : r with
    | false => rfl
    | true => rw [e] at hr; exact absurd ((right_iff l).1 hr) h
  have HNone := Lib.hid (show ∀ k (hk : k < l.length), ¬ ChkH l k hk → r = false from fun k hk h => hno (fun c => h (chkH_right c k hk)))
  have HYes := Lib.hid (show RtH l → r = true from fun h => by rw [← hr]; exact (right_iff l).2 h)
  have HLong := Lib.hid (show 32 < l.length → r = false from fun h => hno (fun c => by have := c.len; omega))
  have HX := Lib.hid (And.intro hnn (And.intro hv hs))
  rw [hr, ← hnn]
  have hnb : n ≤ 1000000 := by omega
  clear hv hs hn hnn hr hno
  go_enter Try.func17, Try.ntmps17
  by_cases h32 : 32 < n
  · have q1 : ((32 : Int) < (n : Int)) = True := eq_true (by omega)
    have q2 : (32 < n) = True := eq_true h32
    have HE := Lib.hid (HLong.out (by rw [← HX.out.1]; exact h32))
    clear h32
    go_wp2
    go_ret
    exact ⟨ret_bool HE.out.symm, Fp.refl _ _⟩
  have q1 : ((32 : Int) < (n : Int)) = False := eq_false (by omega)
  have q2 : (32 < n) = False := eq_false h32
  have H32 := Lib.hid h32
  clear h32
  go_wp2_with fail
  go_loopw [10] (fun i wr => ∃ k : Nat, k ≤ n ∧ i = .int .i64 k ∧ Hid (Fp Non w wr ∧ ∀ j (hj : j < l.length), j < k → ChkH l j hj)) (fun i _ => n - (RowKit.intOf i).toNat)
  case atStart => exact ⟨0, Nat.zero_le _, rfl, Fp.refl _ _, fun j _ h => absurd h (Nat.not_lt_zero j)⟩
  case round =>
    obtain ⟨k, hk, rfl, hR⟩ := hrel
    rename_i wr _
    by_cases hlt : k < n
    · have hkl : k < l.length := by rw [← HX.out.1]; exact hlt
      obtain ⟨g, o, cap', e, _, _, _, hcell⟩ := HX.out.2.1.at (by omega)
      injection e with e1 e2 e3
      subst e1 e3
      have f0 := hR.out.1
      have hnd := (hcell k hkl).keep f0 (fun h => h)
      obtain ⟨x, hx⟩ : ∃ x, x = l[k] := ⟨_, rfl⟩
      rw [← hx] at hnd
      have c0 := hnd.c0; have c1 := hnd.c1; have c2 := hnd.c2
      unfold strV at c0
      have q3 : ((k : Int) < (n : Int)) = True := eq_true (by omega)
      have q4 : (k < n) = True := eq_true hlt
      have hxp : x.d.length ≤ 1000000 := HX.out.2.2 x (by rw [hx]; exact List.getElem_mem hkl)
      have hfc := fun w => fits_c x w hxp
      unfold hlV strV at hfc
      have hbb := bxH wr x
      have HB := Lib.hid (And.intro (((Fp.refl Non wr).alloc (Obj.cells #[.string (B x.d), .int .i64 x.t, .int .i64 x.a] TH)).drew) hbb)
      have HW := Lib.hid (f0)
      have HK := Lib.hid hlt
      have hpc : ∀ k', k' < l.length → ∃ z, (wr.alloc (Obj.cells #[.string (B x.d), .int .i64 x.t, .int .i64 x.a] TH)).drew.cell? ⟨g, o + k' * 3, none⟩ = some (.string (B z)) ∧ ∀ h : k' < l.length, z = (l[k']).d := fun k' h => ⟨_, HB.out.1.cell ((hcell k' h).keep f0 (fun h => h)).c0 (fun h => h), fun _ => rfl⟩
      have hold := hR.out.2
      have hstep : okH x = true → (0 < k → ∀ h : k - 1 < l.length, lt (l[k-1]).d x.d = true) → ∀ j (hj : j < l.length), j < k + 1 → ChkH l j hj := fun a b j hj hjk => by
        rcases Nat.lt_or_eq_of_le (show j ≤ k by omega) with e | e
        · exact hold j hj e
        · subst e; exact ⟨by rw [← hx]; exact a, fun h0 h1 => by rw [← hx]; exact b h0 h1⟩
      have hno : (okH x = false ∨ (0 < k ∧ ∃ h : k - 1 < l.length, lt (l[k-1]).d x.d = false)) → r = false := fun h => HNone.out k hkl (fun c => by
        rcases h with h | ⟨h0, h1, h2⟩
        · have := c.1; rw [← hx, h] at this; cases this
        · have := c.2 h0 h1; rw [← hx, h2] at this; cases this)
      obtain ⟨fx, hfx⟩ : ∃ b, okH x = b := ⟨_, rfl⟩
      rw [hfx] at hfc hstep hno
      have HFC := Lib.hid hfc
      have HST := Lib.hid (And.intro hstep (And.intro hno (And.intro hpc hkl)))
      clear hfc hbb hpc hold hstep hno hfx hxp hx hnd hcell f0
      cases fx with
      | false =>
        have HNO := Lib.hid (HST.out.2.1 (.inl rfl))
        clear hkl hlt hk
        go_wp2_with fail
        refine wp_region_held_drew (S := (fun w' => w'.cell? ⟨wr.heap.size, 0, none⟩ = some (.string (B x.d)) ∧ w'.cell? ⟨wr.heap.size, 1, none⟩ = some (.int .i64 x.t) ∧ w'.cell? ⟨wr.heap.size, 2, none⟩ = some (.int .i64 x.a))) (by kernel_rfl) ?_ (fun hHeld => ?_)
        · exact ⟨HB.out.2.c0, HB.out.2.c1, HB.out.2.c2⟩
        try simp only [zP, zN, zS, zT, zU]
        refine tk 0 hHeld ?_
        refine rY 1 (fun K hK => ?_)
        go_simp
        go_at_call 35
        refine (HFC.out _).mono ?_
        rintro e w1 ⟨rfl, f1⟩
        have b1 := HB.out.2.keep f1 (fun h => h)
        have HS1 := Lib.hid (And.intro b1.c0 (And.intro b1.c1 b1.c2))
        have F := Lib.hid (HB.out.1.then f1)
        clear f1 b1
        go_wp2_with fail
        refine hK.out _ _ HS1.out (fun hHeld => ?_)
        clear hK K
        try simp only [zP, zN, zS, zT, zU]
        refine tk 2 hHeld ?_
        refine tk 3 hHeld ?_
        refine sk 4 hHeld ?_
        refine sk 5 hHeld ?_
        refine sk 6 hHeld ?_
        refine sk 7 hHeld ?_
        refine sk 8 hHeld ?_
        refine sk 9 hHeld ?_
        refine sk 10 hHeld ?_
        refine sk 11 hHeld ?_
        refine sk 12 hHeld ?_
        refine sk 13 hHeld ?_
        refine sk 14 hHeld ?_
        refine sk 15 hHeld ?_
        refine sk 16 hHeld ?_
        refine tk 17 hHeld ?_
        refine yD ?_
        go_wp2
        go_ret
        exact ⟨ret_bool HNO.out.symm, HW.out.then F.out⟩
      | true =>
        rcases Nat.eq_zero_or_pos k with hk0 | hk0
        · subst hk0
          simp only [Nat.zero_mul, Nat.add_zero] at c0 c1 c2
          have HNX := Lib.hid (HST.out.1 rfl (fun h => absurd h (by omega)))
          clear hkl hlt hk
          go_wp2_with fail
          refine wp_region_held_drew (S := (fun w' => w'.cell? ⟨wr.heap.size, 0, none⟩ = some (.string (B x.d)) ∧ w'.cell? ⟨wr.heap.size, 1, none⟩ = some (.int .i64 x.t) ∧ w'.cell? ⟨wr.heap.size, 2, none⟩ = some (.int .i64 x.a))) (by kernel_rfl) ?_ (fun hHeld => ?_)
          · exact ⟨HB.out.2.c0, HB.out.2.c1, HB.out.2.c2⟩
          try simp only [zP, zN, zS, zT, zU]
          refine tk 0 hHeld ?_
          refine rY 1 (fun K hK => ?_)
          go_simp
          go_at_call 35
          refine (HFC.out _).mono ?_
          rintro e w1 ⟨rfl, f1⟩
          have b1 := HB.out.2.keep f1 (fun h => h)
          have HS1 := Lib.hid (And.intro b1.c0 (And.intro b1.c1 b1.c2))
          have F := Lib.hid (HB.out.1.then f1)
          clear f1 b1
          go_wp2_with fail
          refine hK.out _ _ HS1.out (fun hHeld => ?_)
          clear hK K
          try simp only [zP, zN, zS, zT, zU]
          refine tk 2 hHeld ?_
          refine tk 3 hHeld ?_
          refine tk 4 hHeld ?_
          refine tk 5 hHeld ?_
          refine tk 6 hHeld ?_
          refine sk 7 hHeld ?_
          refine sk 8 hHeld ?_
          refine sk 9 hHeld ?_
          refine sk 10 hHeld ?_
          refine sk 11 hHeld ?_
          refine sk 12 hHeld ?_
          refine sk 13 hHeld ?_
          refine sk 14 hHeld ?_
          refine sk 15 hHeld ?_
          refine tk 16 hHeld ?_
          refine tk 17 hHeld ?_
          refine yD ?_
          have hkn := HK.out
          go_wp2
          go_roundw
          case rel => exact ⟨1, by have := HK.out; omega, by go_num, ⟨HW.out.then F.out, HNX.out⟩⟩
          case measure => have := HK.out; simp [RowKit.intOf]; omega
        · obtain ⟨z, hz, hz2⟩ := HST.out.2.2.1 (k - 1) (by omega)
          have HP := Lib.hid hz
          have hkm : k - 1 < l.length := by omega
          have HZ := Lib.hid (And.intro (hz2 hkm) (And.intro hk0 hkm))
          have wk : IntKind.i64.wrap ((k : Int) - 1) = ((k - 1 : Nat) : Int) := by rw [IntKind.wrap_i64]; omega
          have qz : ((0 : Int) < (k : Int)) = True := eq_true (by omega)
          have qz2 : (0 < k) = True := eq_true hk0
          have qn : (((k - 1 : Nat) : Int) < (n : Int)) = True := eq_true (by omega)
          have qn2 : (k - 1 < n) = True := eq_true (by omega)
          by_cases hle : (Op.bytesLess x.d z || x.d == z) = true
          · have HNO := Lib.hid (HST.out.2.1 (.inr ⟨HZ.out.2.1, HZ.out.2.2, by rw [← HZ.out.1]; exact notUp hle⟩))
            clear hlt hk hk0 hz hz2
            go_wp2_with fail
            refine wp_region_held_drew (S := (fun w' => w'.cell? ⟨wr.heap.size, 0, none⟩ = some (.string (B x.d)) ∧ w'.cell? ⟨wr.heap.size, 1, none⟩ = some (.int .i64 x.t) ∧ w'.cell? ⟨wr.heap.size, 2, none⟩ = some (.int .i64 x.a) ∧ w'.cell? ⟨g, o + (k - 1) * 3, none⟩ = some (.string (B z)))) (by kernel_rfl) ?_ (fun hHeld => ?_)
            · exact ⟨HB.out.2.c0, HB.out.2.c1, HB.out.2.c2, HP.out⟩
            try simp only [zP, zN, zS, zT, zU]
            refine tk 0 hHeld ?_
            refine rY 1 (fun K hK => ?_)
            go_simp
            go_at_call 35
            refine (HFC.out _).mono ?_
            rintro e w1 ⟨rfl, f1⟩
            have b1 := HB.out.2.keep f1 (fun h => h)
            have HS1 := Lib.hid (And.intro b1.c0 (And.intro b1.c1 (And.intro b1.c2 (f1.cell HP.out (fun h => h)))))
            have F := Lib.hid (HB.out.1.then f1)
            clear f1 b1
            go_wp2_with fail
            refine hK.out _ _ HS1.out (fun hHeld => ?_)
            clear hK K
            try simp only [zP, zN, zS, zT, zU]
            refine tk 2 hHeld ?_
            refine tk 3 hHeld ?_
            refine tk 4 hHeld ?_
            refine tk 5 hHeld ?_
            refine tk 6 hHeld ?_
            refine tk 7 hHeld ?_
            refine tk 8 hHeld ?_
            refine tk 9 hHeld ?_
            refine tk 10 hHeld ?_
            refine tk 11 hHeld ?_
            refine tk 12 hHeld ?_
            refine tk 13 hHeld ?_
            refine tk 14 hHeld ?_
            refine tk 15 hHeld ?_
            refine tk 16 hHeld ?_
            refine tk 17 hHeld ?_
            refine yD ?_
            go_wp2
            go_ret
            exact ⟨ret_bool HNO.out.symm, HW.out.then F.out⟩
          · have hle' : (Op.bytesLess x.d z || x.d == z) = false := by simpa using hle
            have HNX := Lib.hid (HST.out.1 rfl (fun _ h => by rw [← HZ.out.1]; exact isUp hle'))
            clear hlt hk hk0 hz hz2 hle
            go_wp2_with fail
            refine wp_region_held_drew (S := (fun w' => w'.cell? ⟨wr.heap.size, 0, none⟩ = some (.string (B x.d)) ∧ w'.cell? ⟨wr.heap.size, 1, none⟩ = some (.int .i64 x.t) ∧ w'.cell? ⟨wr.heap.size, 2, none⟩ = some (.int .i64 x.a) ∧ w'.cell? ⟨g, o + (k - 1) * 3, none⟩ = some (.string (B z)))) (by kernel_rfl) ?_ (fun hHeld => ?_)
            · exact ⟨HB.out.2.c0, HB.out.2.c1, HB.out.2.c2, HP.out⟩
            try simp only [zP, zN, zS, zT, zU]
            refine tk 0 hHeld ?_
            refine rY 1 (fun K hK => ?_)
            go_simp
            go_at_call 35
            refine (HFC.out _).mono ?_
            rintro e w1 ⟨rfl, f1⟩
            have b1 := HB.out.2.keep f1 (fun h => h)
            have HS1 := Lib.hid (And.intro b1.c0 (And.intro b1.c1 (And.intro b1.c2 (f1.cell HP.out (fun h => h)))))
            have F := Lib.hid (HB.out.1.then f1)
            clear f1 b1
            go_wp2_with fail
            refine hK.out _ _ HS1.out (fun hHeld => ?_)
            clear hK K
            try simp only [zP, zN, zS, zT, zU]
            refine tk 2 hHeld ?_
            refine tk 3 hHeld ?_
            refine tk 4 hHeld ?_
            refine tk 5 hHeld ?_
            refine tk 6 hHeld ?_
            refine tk 7 hHeld ?_
            refine tk 8 hHeld ?_
            refine tk 9 hHeld ?_
            refine tk 10 hHeld ?_
            refine tk 11 hHeld ?_
            refine tk 12 hHeld ?_
            refine tk 13 hHeld ?_
            refine tk 14 hHeld ?_
            refine tk 15 hHeld ?_
            refine tk 16 hHeld ?_
            refine tk 17 hHeld ?_
            refine yD ?_
            have hkn := HK.out
            go_wp2
            go_roundw
            case rel => exact ⟨k + 1, by have := HK.out; omega, by go_num, ⟨HW.out.then F.out, HNX.out⟩⟩
            case measure => have := HK.out; simp [RowKit.intOf]; omega
    · have hke : k = n := by omega
      subst hke
      have q3 : ((k : Int) < (k : Int)) = False := eq_false (by omega)
      have HE := Lib.hid (HYes.out (chkH_all (by have := HX.out.1; have := H32.out; omega) (fun j hj => hR.out.2 j hj (by rw [HX.out.1]; exact hj))))
      clear hlt hk
      go_wp2
      go_ret
      exact ⟨ret_bool HE.out.symm, hR.out.1⟩
end Go.Proofs.Ytcjpgenlhphapaa
