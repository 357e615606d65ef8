/- CheckOrder: the law's walk. -/
import Derived.Test.YtmaknpflipannaaHd
namespace Go.Proofs.Ytmaknpflipannaa
open Go.RowKit Pm

set_option maxHeartbeats 1000000 in
theorem CheckOrder_c (a b m c : Int) (w : World) (ha : 0 ≤ a ∧ a ≤ 4294967295) (hb : 0 ≤ b ∧ b ≤ 4294967295) (hm : 0 ≤ m ∧ m ≤ 65535) (hc : 0 ≤ c ∧ c ≤ 4294967295) :
    Calls Try.prog 8 #[.int .u32 a, .int .u32 b, .int .u16 m, .int .u32 c] w fun e w' => e = .returned (.bool true) ∧ Fp Non w w' := by
  have h1 := Newer_c (a + (m + 1)) b a c
  rw [show newer (a + (m + 1)) b a c = true from by rw [newer_eq]; exact decide_eq_true (by omega)] at h1
  have h2 := Newer_c a c (a + (m + 1)) b
  rw [show newer a c (a + (m + 1)) b = false from by rw [newer_eq]; exact decide_eq_false (by omega)] at h2
  have h3 := Newer_c a (b + (m + 1)) a b
  rw [show newer a (b + (m + 1)) a b = true from by rw [newer_eq]; exact decide_eq_true (by omega)] at h3
  have h4 := Newer_c a b a (b + (m + 1))
  rw [show newer a b a (b + (m + 1)) = false from by rw [newer_eq]; exact decide_eq_false (by omega)] at h4
  have HN := Lib.hid (And.intro h1 (And.intro h2 (And.intro h3 h4))); clear h1 h2 h3 h4
  go_enter Try.func8, Try.ntmps8
  go_wp2_with fail
  refine (head_c w).mono ?_
  rintro e w1 ⟨rfl, hfp⟩
  have HFP := Lib.hid hfp; clear hfp
  go_wp2_with fail
  refine (HN.out.1 _).mono ?_
  rintro e w2 ⟨rfl, rfl⟩
  go_wp2_with fail
  refine (HN.out.2.1 _).mono ?_
  rintro e w2 ⟨rfl, rfl⟩
  go_wp2_with fail
  refine (HN.out.2.2.1 _).mono ?_
  rintro e w2 ⟨rfl, rfl⟩
  go_wp2_with fail
  refine (HN.out.2.2.2 _).mono ?_
  rintro e w2 ⟨rfl, rfl⟩
  go_wp2
  go_ret
  exact ⟨rfl, HFP.out⟩
end Go.Proofs.Ytmaknpflipannaa
