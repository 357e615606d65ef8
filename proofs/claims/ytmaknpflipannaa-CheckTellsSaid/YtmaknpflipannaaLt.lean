/- CheckTells: the law's walk. -/
import Derived.Test.YtmaknpflipannaaHd
namespace Go.Proofs.Ytmaknpflipannaa
open Go.RowKit Pm

set_option maxHeartbeats 1000000 in
theorem Tells_in (s : Nat) (v : Value) (l : Bs) (a b c d : Int) (w : World) (hs : s < 65536) (hl : Sl w v l) (h : l.length ≤ 100000) :
    Calls Try.prog 3 #[.int .u16 (s : Int), v, .int .i64 a, .int .i64 b, .int .i64 c, .int .i64 d] w fun e w' => e = .returned (.bool true) ∧ Fp Non w w' := by
  have q1 : ((100000 : Int) < (l.length : Int)) = False := eq_false (by omega)
  obtain ⟨ao, cap, rfl, _, _, _⟩ := hl.ex
  have HL := Lib.hid (And.intro hs hl); clear hs hl h
  generalize hv : sum s l = V at *
  generalize hX : newer a b c d = X at *
  have HV := Lib.hid (And.intro hv hX); clear hv hX
  go_enter Try.func3, Try.ntmps3
  go_wp2_with fail
  refine (head_c w).mono ?_
  rintro e w1 ⟨rfl, hfp⟩
  have HFP := Lib.hid hfp; clear hfp
  have k1 := Sum_c s _ l w1 HL.out.1 (HL.out.2.keep HFP.out (fun _ _ h => h))
  have k2 := RSum_c s _ l w1 HL.out.1 (HL.out.2.keep HFP.out (fun _ _ h => h))
  have k3 := Newer_c a b c d w1
  have k4 := RNewer_c a b c d w1
  rw [HV.out.1] at k1 k2
  rw [HV.out.2] at k3 k4
  have HK := Lib.hid (And.intro k1 (And.intro k2 (And.intro k3 k4))); clear k1 k2 k3 k4
  go_wp2_with fail
  refine HK.out.1.mono ?_
  rintro e w2 ⟨rfl, rfl⟩
  go_wp2_with fail
  refine HK.out.2.1.mono ?_
  rintro e w2 ⟨rfl, rfl⟩
  go_wp2_with fail
  refine HK.out.2.2.1.mono ?_
  rintro e w2 ⟨rfl, rfl⟩
  go_wp2_with fail
  refine HK.out.2.2.2.mono ?_
  rintro e w2 ⟨rfl, rfl⟩
  go_wp2
  go_ret
  exact ⟨rfl, HFP.out⟩

set_option maxHeartbeats 1000000 in
theorem Tells_long (s : Nat) (v : Value) (l : Bs) (a b c d : Int) (w : World) (hl : Sl w v l) (h : 100000 < l.length) :
    Calls Try.prog 3 #[.int .u16 (s : Int), v, .int .i64 a, .int .i64 b, .int .i64 c, .int .i64 d] w fun e w' => e = .returned (.bool true) ∧ Fp Non w w' := by
  have q1 : ((100000 : Int) < (l.length : Int)) = True := eq_true (by omega)
  obtain ⟨ao, cap, rfl, _, _, _⟩ := hl.ex
  clear hl h
  go_enter Try.func3, Try.ntmps3
  go_wp2_with fail
  refine (head_c w).mono ?_
  rintro e w1 ⟨rfl, hfp⟩
  have HFP := Lib.hid hfp; clear hfp
  go_wp2
  go_ret
  exact ⟨rfl, HFP.out⟩

theorem CheckTells_c (s : Int) (v : Value) (l : Bs) (a b c d : Int) (w : World) (hs : 0 ≤ s ∧ s ≤ 65535) (hl : Sl w v l) :
    Calls Try.prog 3 #[.int .u16 s, v, .int .i64 a, .int .i64 b, .int .i64 c, .int .i64 d] w fun e w' => e = .returned (.bool true) ∧ Fp Non w w' := by
  obtain ⟨s, rfl⟩ := Int.eq_ofNat_of_zero_le hs.1
  by_cases h : l.length ≤ 100000
  · exact Tells_in s v l a b c d w (by omega) hl h
  · exact Tells_long s v l a b c d w hl (by omega)
end Go.Proofs.Ytmaknpflipannaa
