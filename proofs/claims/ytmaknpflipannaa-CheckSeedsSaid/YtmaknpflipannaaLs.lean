/- CheckSeeds: the law's walk. -/
import Derived.Test.YtmaknpflipannaaCp
namespace Go.Proofs.Ytmaknpflipannaa
open Go.RowKit Pm

theorem Seeds_out (a b : Int) (v x : Value) (t m : Bs) (w : World) (ht : Sl w v t) (hm : Sl w x m) (h : 9000 < t.length ∨ 60 < m.length) :
    Calls Try.prog 7 #[.int .u16 a, .int .u16 b, v, x] w fun e w' => e = .returned (.bool true) ∧ Fp Non w w' := by
  have hq : ((9000 : Int) < (t.length : Int)) = True ∨ ((9000 : Int) < (t.length : Int)) = False ∧ ((60 : Int) < (m.length : Int)) = True := by
    by_cases h0 : 9000 < t.length
    · exact .inl (eq_true (by omega))
    · exact .inr ⟨eq_false (by omega), eq_true (by omega)⟩
  obtain ⟨ao, cap, rfl, _, _, _⟩ := ht.ex
  obtain ⟨ao', cap', rfl, _, _, _⟩ := hm.ex
  clear ht hm h
  rcases hq with q1 | ⟨q1, q2⟩ <;> (
    go_enter Try.func7, Try.ntmps7
    go_wp2_with fail
    refine (head_c w).mono ?_
    rintro e w1 ⟨rfl, hfp⟩
    have HFP := Lib.hid hfp; clear hfp
    go_wp2
    go_ret
    exact ⟨rfl, HFP.out⟩)

theorem beq_nat (a b : Nat) : ((a : Int) == (b : Int)) = (a == b) := by
  by_cases h : a = b
  · subst h; simp
  · rw [beq_eq_false_iff_ne.2 h, beq_eq_false_iff_ne]; omega

set_option maxHeartbeats 2000000 in
theorem Seeds_in (a b : Nat) (v x : Value) (t m : Bs) (w : World) (ha : a < 65536) (hb : b < 65536) (ht : Sl w v t) (hm : Sl w x m) (h1 : t.length ≤ 9000) (h2 : m.length ≤ 60) :
    Calls Try.prog 7 #[.int .u16 (a : Int), .int .u16 (b : Int), v, x] w fun e w' => e = .returned (.bool true) ∧ Fp Non w w' := by
  obtain ⟨ao, cap, rfl, _, _, _⟩ := ht.ex
  obtain ⟨ao', cap', rfl, _, _, _⟩ := hm.ex
  have q1 : ((9000 : Int) < (t.length : Int)) = False := eq_false (by omega)
  have q2 : ((60 : Int) < (m.length : Int)) = False := eq_false (by omega)
  have s1 := sum_more a t m h2
  rw [← beq_nat, ← beq_nat] at s1
  have s2 : ((a : Int) < 65520) = False ∨ ((a : Int) < 65520) = True ∧ (((b : Int) < 65520) = False ∨ ((b : Int) < 65520) = True ∧ (((sum a t : Nat) : Int) == ((sum b t : Nat) : Int)) = ((a : Int) == (b : Int))) := by
    by_cases h : a < 65520
    · refine .inr ⟨eq_true (by omega), ?_⟩
      by_cases h' : b < 65520
      · refine .inr ⟨eq_true (by omega), ?_⟩
        rw [beq_nat, beq_nat]; exact sum_seeds a b t h h'
      · exact .inl (eq_false (by omega))
    · exact .inl (eq_false (by omega))
  obtain ⟨A, hA⟩ : ∃ A, A = sum a t := ⟨_, rfl⟩
  obtain ⟨Z, hZ⟩ : ∃ Z, Z = sum b t := ⟨_, rfl⟩
  obtain ⟨Y, hY⟩ : ∃ Y, Y = sum a (t ++ m) := ⟨_, rfl⟩
  rw [← hA] at s1
  rw [← hY] at s1
  rw [← hA, ← hZ] at s2
  have HAZ := Lib.hid (And.intro hA (And.intro hZ hY)); clear hA hZ hY
  have HS := Lib.hid (And.intro ha (And.intro hb (And.intro ht (And.intro hm (And.intro h1 h2))))); clear ha hb ht hm h1 h2
  generalize hE : ((m.length : Int) == 0) = E at s1
  have s1 : ((Y : Int) == (A : Int)) = E := by rw [s1]
  generalize hF : ((a : Int) == (b : Int)) = F at s2
  have s2 : ((a : Int) < 65520) = False ∨ (((a : Int) < 65520) = True ∧ ((b : Int) < 65520) = False) ∨ (((a : Int) < 65520) = True ∧ ((b : Int) < 65520) = True ∧ ((A : Int) == (Z : Int)) = F) := by
    rcases s2 with s2 | ⟨s2, s3 | ⟨s3, s4⟩⟩
    · exact .inl s2
    · exact .inr (.inl ⟨s2, s3⟩)
    · exact .inr (.inr ⟨s2, s3, s4⟩)
  have H2 := Lib.hid s2; clear s2
  go_enter Try.func7, Try.ntmps7
  go_wp2_with fail
  refine (head_c w).mono ?_
  rintro e w1 ⟨rfl, hfp⟩
  have ht1 := HS.out.2.2.1.keep hfp (fun _ _ h => h)
  have hm1 := HS.out.2.2.2.1.keep hfp (fun _ _ h => h)
  have k1 := Sum_c a _ _ w1 HS.out.1 ht1
  rw [← HAZ.out.1] at k1
  have HF := Lib.hid (And.intro hfp (And.intro ht1 (And.intro hm1 k1))); clear hfp ht1 hm1 k1
  go_wp2_with fail
  refine HF.out.2.2.2.mono ?_
  rintro e w2 ⟨rfl, rfl⟩
  have happ := (Nw.made w1).more _ t 23 (HF.out.2.1.keep ((Fp.refl Non w1).alloc _) (fun _ _ h => h)) (by have := HS.out.2.2.2.2.1; simp; omega)
  rw [List.nil_append] at happ
  have HA := Lib.hid happ; clear happ
  go_wp2_with (at_builtin; go_must (refine wpList_app rfl _ _ _ _ rfl _ _ rfl rfl _ HA.out ?_))
  intro v2 w2 hN
  obtain ⟨ao2, cap2, rfl⟩ := hN.shape
  have happ := hN.more _ m 23 (HF.out.2.2.1.keep hN.fp (fun _ _ h => h)) (by have := HS.out.2.2.2.2; omega)
  have HA2 := Lib.hid happ; clear happ hN HA
  go_wp2_with (at_builtin; go_must (refine wpList_app rfl _ _ _ _ rfl _ _ rfl rfl _ HA2.out ?_))
  intro v3 w3 hN
  have hf3 : Fp Non w w3 := HF.out.1.then hN.fp
  have k2 := Sum_c b _ _ w3 HS.out.2.1 (HS.out.2.2.1.keep hf3 (fun _ _ h => h))
  have k3 := Sum_c a _ _ w3 HS.out.1 hN.sl
  rw [← HAZ.out.2.1] at k2
  rw [← HAZ.out.2.2] at k3
  obtain ⟨ao3, cap3, rfl⟩ := hN.shape
  simp only [List.length_append] at k3
  have HK := Lib.hid (And.intro hf3 (And.intro k2 k3)); clear hf3 k2 k3 hN HA2
  rcases H2.out with q3 | ⟨q3, q4⟩ | ⟨q3, q4, q5⟩
  · go_wp2_with fail
    refine HK.out.2.2.mono ?_
    rintro e w4 ⟨rfl, rfl⟩
    go_wp2
    go_ret
    exact ⟨rfl, HK.out.1⟩
  · go_wp2_with fail
    refine HK.out.2.2.mono ?_
    rintro e w4 ⟨rfl, rfl⟩
    go_wp2
    go_ret
    exact ⟨rfl, HK.out.1⟩
  · go_wp2_with fail
    refine HK.out.2.1.mono ?_
    rintro e w4 ⟨rfl, rfl⟩
    go_wp2_with fail
    refine HK.out.2.2.mono ?_
    rintro e w4 ⟨rfl, rfl⟩
    go_wp2
    go_ret
    exact ⟨rfl, HK.out.1⟩

theorem CheckSeeds_c (a b : Int) (v : Value) (t : Bs) (x : Value) (m : Bs) (w : World) (ha : 0 ≤ a ∧ a ≤ 65535) (hb : 0 ≤ b ∧ b ≤ 65535) (ht : Sl w v t) (hm : Sl w x m) :
    Calls Try.prog 7 #[.int .u16 a, .int .u16 b, v, x] w fun e w' => e = .returned (.bool true) ∧ Fp Non w w' := by
  by_cases h : 9000 < t.length ∨ 60 < m.length
  · exact Seeds_out a b v x t m w ht hm h
  · obtain ⟨a, rfl⟩ := Int.eq_ofNat_of_zero_le ha.1
    obtain ⟨b, rfl⟩ := Int.eq_ofNat_of_zero_le hb.1
    exact Seeds_in a b v x t m w (by omega) (by omega) ht hm (by omega) (by omega)
end Go.Proofs.Ytmaknpflipannaa
