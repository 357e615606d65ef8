/- PackMost: the law's walk. -/
import Derived.Test.YtidkihadlhkbkaaNw
namespace Go.Proofs.Ytidkihadlhkbkaa
open Go.RowKit Pm

set_option maxHeartbeats 1000000 in
theorem PackMost_out (a b most : Int) (w : World) (h : (a < 0 ∨ b < 0) ∨ ((M : Int) < a ∨ (M : Int) < b)) :
    Calls Try.prog 9 #[.int .i64 a, .int .i64 b, .int .i64 most] w fun e w' => e = .returned (.bool true) ∧ Fp Non w w' := by
  rw [show ((M : Nat) : Int) = 281474976710656 from rfl] at h
  have r1 : ∀ {p : Prop}, p → p = True := fun h => eq_true h
  by_cases h1 : a < 0
  · have r1 : (a < 0) = True := eq_true h1
    clear h h1
    go_enter Try.func9, Try.ntmps9
    go_wp2_with fail
    refine (head_c w).mono ?_
    rintro e w1 ⟨rfl, hf⟩
    have HF := Lib.hid hf; clear hf
    go_wp2
    go_ret
    exact ⟨rfl, HF.out⟩
  have r1 : (a < 0) = False := eq_false h1
  by_cases h2 : b < 0
  · have r2 : (b < 0) = True := eq_true h2
    clear h h1 h2
    go_enter Try.func9, Try.ntmps9
    go_wp2_with fail
    refine (head_c w).mono ?_
    rintro e w1 ⟨rfl, hf⟩
    have HF := Lib.hid hf; clear hf
    go_wp2
    go_ret
    exact ⟨rfl, HF.out⟩
  have r2 : (b < 0) = False := eq_false h2
  by_cases h3 : 281474976710656 < a
  · have r3 : (281474976710656 < a) = True := eq_true h3
    clear h h1 h2 h3
    go_enter Try.func9, Try.ntmps9
    go_wp2_with fail
    refine (head_c w).mono ?_
    rintro e w1 ⟨rfl, hf⟩
    have HF := Lib.hid hf; clear hf
    go_wp2
    go_ret
    exact ⟨rfl, HF.out⟩
  have r3 : (281474976710656 < a) = False := eq_false h3
  have h4 : 281474976710656 < b := by omega
  have r4 : (281474976710656 < b) = True := eq_true h4
  clear h h1 h2 h3 h4
  go_enter Try.func9, Try.ntmps9
  go_wp2_with fail
  refine (head_c w).mono ?_
  rintro e w1 ⟨rfl, hf⟩
  have HF := Lib.hid hf; clear hf
  go_wp2
  go_ret
  exact ⟨rfl, HF.out⟩

/-- Two slices' bytes, as texts. -/
theorem beq_enc (a b : Nat) : (enc a == enc b) = (a == b) := by
  by_cases h : a = b
  · subst h; simp
  · have : enc a ≠ enc b := fun e => h (enc_inj e)
    rw [beq_eq_false_iff_ne.2 this, beq_eq_false_iff_ne.2 h]

set_option maxHeartbeats 4000000 in
theorem PackMost_in (a b : Nat) (most : Int) (w : World) (ha : a ≤ M) (hb : b ≤ M) :
    Calls Try.prog 9 #[.int .i64 a, .int .i64 b, .int .i64 most] w fun e w' => e = .returned (.bool true) ∧ Fp Non w w' := by
  have r3 : ((281474976710656 : Int) < a) = False := eq_false (by unfold M at ha; omega)
  have r4 : ((281474976710656 : Int) < b) = False := eq_false (by unfold M at hb; omega)
  have la := enc_len a ha
  have lb := enc_len b hb
  have HA := Lib.hid (And.intro ha hb); clear ha hb
  have HLE := Lib.hid (And.intro la lb); clear la lb
  go_enter Try.func9, Try.ntmps9
  go_wp2_with fail
  refine (head_c w).mono ?_
  rintro e w1 ⟨rfl, hf⟩
  have x0 := Wr.new TW w1.heap.size w1 (Nat.le_refl _)
  have fx : Fp Non w1 (w1.alloc (.cells #[.slice none 0 0, .bool false] TW)) := (Fp.refl Non w1).alloc _
  have y0 := Wr.new TW (w1.alloc (.cells #[.slice none 0 0, .bool false] TW)).heap.size (w1.alloc (.cells #[.slice none 0 0, .bool false] TW)) (Nat.le_refl _)
  have fy : Fp Non (w1.alloc (.cells #[.slice none 0 0, .bool false] TW)) ((w1.alloc (.cells #[.slice none 0 0, .bool false] TW)).alloc (.cells #[.slice none 0 0, .bool false] TW)) := (Fp.refl Non _).alloc _
  rw [show (w1.alloc (.cells #[.slice none 0 0, .bool false] TW)).heap.size = w1.heap.size + 1 by simp] at y0
  have x1 := x0.keep fy (fun _ _ h => h)
  have fxy := (hf.then fx).then fy
  have hs1 := hf.size
  have HF := Lib.hid fxy
  have HX := Lib.hid x1
  have HY := Lib.hid y0
  clear fx fy x0 x1 y0 fxy hf
  go_wp2_with fail
  refine (Num_ok _ _ _ _ _ a _ HX.out HA.out.1 (by simp)).mono ?_
  rintro e w2 ⟨rfl, vx, hx, hfx, hvx⟩
  rw [List.nil_append] at hx
  have hsx := hfx.size
  have hy := HY.out.keep hfx (fun k hk h => by
    rcases hk with rfl | hk
    · rcases h with h | h
      · omega
      · cases h
    · cases hk)
  have HX2 := Lib.hid (And.intro hx (And.intro hfx hvx)); clear hx hfx hvx HX
  have HY2 := Lib.hid hy; clear hy HY
  go_wp2_with fail
  refine (Num_ok _ _ _ _ _ b _ HY2.out HA.out.2 (by simp)).mono ?_
  rintro e w3 ⟨rfl, vy, hy, hfy, hvy⟩
  rw [List.nil_append] at hy
  have hsy := hfy.size
  have hdj : ∀ k, own2 w1.heap.size vx k → ¬ own2 (w1.heap.size + 1) (.slice none 0 0) k := by
    intro k hk h
    rcases h with rfl | h
    · rcases hk with hk | hk
      · omega
      · have := HX2.out.2.2 _ hk
        rcases this with h | h
        · cases h
        · simp at h; omega
    · cases h
  have hx := HX2.out.1.keep hfy hdj
  have HX3 := Lib.hid hx; clear hx hdj
  have HY3 := Lib.hid (And.intro hy (And.intro hfy hvy)); clear hy hfy hvy HY2
  go_wp2_with fail
  refine (Bytes_c _ _ _ _ _ _ HX3.out (by have := HLE.out; omega)).mono ?_
  rintro e w4 ⟨vc, rfl, hc⟩
  simp only [Bool.false_eq_true, if_false] at hc ⊢
  have hs4 := hc.fp.size
  have hy := HY3.out.1.keep hc.fp (fun _ _ h => h)
  obtain ⟨aoc, capc, rfl⟩ := hc.shape
  have HC := Lib.hid hc; clear hc
  have HY4 := Lib.hid hy; clear hy
  go_wp2_with fail
  refine (Bytes_c _ _ _ _ _ _ HY4.out (by have := HLE.out; omega)).mono ?_
  rintro e w5 ⟨vd, rfl, hd⟩
  simp only [Bool.false_eq_true, if_false] at hd ⊢
  have hs5 := hd.fp.size
  have hc5 := HC.out.sl.keep hd.fp (fun _ _ h => h)
  obtain ⟨aod, capd, rfl⟩ := hd.shape
  have HD := Lib.hid hd; clear hd
  have HC5 := Lib.hid hc5; clear hc5
  go_wp2_with fail
  refine (New_c w5.heap.size _ _ _ HC5.out (Nat.le_refl _)).mono ?_
  rintro e w6 ⟨br, rfl, hbr, hr, hf6⟩
  have hs6 := hf6.size
  have HR := Lib.hid (And.intro hr hf6); clear hr hf6
  go_wp2_with fail
  refine (RNum_c _ _ _ most _ HR.out.1 (by have := HLE.out; simp; omega)).mono ?_
  rintro e w7 ⟨rfl, hr7⟩
  have e7 : rNum (enc a, 0) most = if most < (a : Int) then (0, ([], 3)) else (a, ([], 0)) := by
    have := nx_enc a HA.out.1 [] most
    rw [List.append_nil] at this
    unfold rNum; simp only [ne_eq, not_true_eq_false, if_false, this]
    split <;> rfl
  have hcd : ∀ k, (Value.slice aoc (enc a).length capc).ownBlock = some k → k ≠ br := fun k hk e => by
    have := (HC.out.own.lt k hk).2; omega
  have hdd : ∀ k, (Value.slice aod (enc b).length capd).ownBlock = some k → k ≠ br := fun k hk e => by
    have := (HD.out.own.lt k hk).2; omega
  have hcc := conv_sl w7 _ _ ((HC5.out.keep HR.out.2 (fun _ _ h => h)).keep hr7.2 (fun k hk e => hcd k hk e))
  have hcdv := conv_sl w7 _ _ ((HD.out.sl.keep HR.out.2 (fun _ _ h => h)).keep hr7.2 (fun k hk e => hdd k hk e))
  have hfin : Fp Non w w7 := by
    have f2 : Fp Non w w2 := HF.out.trans HX2.out.2.1 (fun k hk => .inr (by
      rcases hk with rfl | hk
      · exact hs1
      · cases hk))
    have f3 : Fp Non w w3 := f2.trans HY3.out.2.1 (fun k hk => .inr (by
      rcases hk with rfl | hk
      · omega
      · cases hk))
    have f6 := ((f3.then HC.out.fp).then HD.out.fp).then HR.out.2
    have f5 := ((f3.then HC.out.fp).then HD.out.fp).size
    exact f6.trans hr7.2 (fun k hk => .inr (by omega))
  have HFIN := Lib.hid hfin; clear hfin hcd hdd
  have hbe := beq_enc a b
  have hmono : a ≤ b → (enc a).length ≤ (enc b).length := enc_mono a b
  have hr8 := hr7.1
  clear hr7
  have hq : ((enc a == enc b) = true ∧ ((a : Int) == (b : Int)) = true) ∨ ((enc a == enc b) = false ∧ ((a : Int) == (b : Int)) = false) := by
    by_cases h : a = b
    · left; subst h; simp
    · right; exact ⟨by rw [hbe]; exact beq_eq_false_iff_ne.2 h, beq_eq_false_iff_ne.2 (by omega)⟩
  have hg : ((b : Int) < (a : Int)) = True ∨ (((b : Int) < (a : Int)) = False ∧ ((enc a).length ≤ (enc b).length) = True) := by
    by_cases h : (b : Int) < (a : Int)
    · exact .inl (eq_true h)
    · exact .inr ⟨eq_false h, eq_true (hmono (by omega))⟩
  clear hbe hmono
  rw [e7] at hr8 ⊢
  clear e7
  generalize enc a = A at *
  generalize enc b = Bb at *
  have HQ := Lib.hid (And.intro hq hg); clear hq hg
  by_cases hm : most < (a : Int)
  · rw [if_pos hm] at hr8
    simp only [if_pos hm]
    have HR8 := Lib.hid hr8; clear hr8
    have m1 : ((a : Int) ≤ most) = False := eq_false (by omega)
    have m2 : (most < (a : Int)) = True := eq_true hm
    clear hm
    go_wp2_with fail
    refine (RErr_c _ _ _ _ HR8.out).mono ?_
    rintro e w8 ⟨rfl, rfl⟩
    obtain ⟨hq, hg⟩ := HQ.out
    rcases hg with rg | ⟨rg, rl⟩ <;> rcases hq with ⟨q1, q2⟩ | ⟨q1, q2⟩ <;> (go_wp2; go_ret; exact ⟨rfl, HFIN.out⟩)
  · rw [if_neg hm] at hr8
    simp only [if_neg hm]
    have HR8 := Lib.hid hr8; clear hr8
    have m1 : ((a : Int) ≤ most) = True := eq_true (by omega)
    have m2 : (most < (a : Int)) = False := eq_false hm
    have est : stEnd ([], 0) = true := rfl
    clear hm
    go_wp2_with fail
    refine (REnd_c _ _ _ _ HR8.out).mono ?_
    rintro e w8 ⟨rfl, rfl⟩
    obtain ⟨hq, hg⟩ := HQ.out
    rcases hg with rg | ⟨rg, rl⟩ <;> rcases hq with ⟨q1, q2⟩ | ⟨q1, q2⟩ <;> (go_wp2; go_ret; exact ⟨rfl, HFIN.out⟩)

theorem PackMost_c (a b most : Int) (w : World) :
    Calls Try.prog 9 #[.int .i64 a, .int .i64 b, .int .i64 most] w fun e w' => e = .returned (.bool true) ∧ Below w.heap.size w w' := by
  have k : Calls Try.prog 9 #[.int .i64 a, .int .i64 b, .int .i64 most] w fun e w' => e = .returned (.bool true) ∧ Fp Non w w' := by
    by_cases h : (a < 0 ∨ b < 0) ∨ ((M : Int) < a ∨ (M : Int) < b)
    · exact PackMost_out a b most w h
    · obtain ⟨x, rfl⟩ := Int.eq_ofNat_of_zero_le (show 0 ≤ a by omega)
      obtain ⟨y, rfl⟩ := Int.eq_ofNat_of_zero_le (show 0 ≤ b by omega)
      exact PackMost_in x y most w (by omega) (by omega)
  exact k.mono fun e w' h => ⟨h.1, h.2.below (fun _ h => h.elim) (Nat.le_refl _)⟩
end Go.Proofs.Ytidkihadlhkbkaa
