/- SectorNew: the law's walk. -/
import Derived.Test.YtphjedpcebdbhaaHd
namespace Go.Proofs.Ytphjedpcebdbhaa
open Go.RowKit Pm

theorem loose_new (n : Nat) : loose (List.replicate n false) = [] := by
  rw [List.eq_nil_iff_forall_not_mem]
  intro i hi
  obtain ⟨h, h2⟩ := mem_loose.1 hi
  simp at h2

set_option maxHeartbeats 4000000 in
theorem SectorNew_disk (r : Nat) (w : World) (hr1 : 1 ≤ r) (hr2 : r ≤ 4096) : Calls Try.prog 4 #[.int .i64 (r : Int)] w fun e w' => e = .returned (.bool true) ∧ Fp Non w w' := by
  have q0 : ((5000 : Int) < (r : Int)) = False := eq_false (by omega)
  have hrb : r ≤ 4096 := hr2
  go_enter Try.func4, Try.ntmps4
  go_wp2_with fail
  refine (head_c w).mono ?_
  rintro e w1 ⟨rfl, hf⟩
  have HF := Lib.hid hf; clear hf
  go_wp2_with fail
  refine (New_c w1.heap.size w1 r hr1 hr2 (Nat.le_refl _)).mono ?_
  rintro e w2 ⟨b, g, m, rfl, hd, hf2, hown⟩
  have HD := Lib.hid (And.intro hd (And.intro hf2 hown)); clear hd hf2 hown
  go_wp2_with fail
  refine (Bytes_c HD.out.1).mono ?_
  rintro e w3 ⟨v, rfl, hN⟩
  have hcur : (dOf (List.replicate (r * 16) 0)).cur = List.replicate (r * 16) 0 := rfl
  rw [hcur] at hN
  have hsl := hN.sl
  obtain ⟨ao, cap, hv, hk1, hk2, hk3⟩ := hsl.ex
  unfold maxLen at hk2
  have hlen : (List.replicate (r * 16) (0 : UInt8)).length = r * 16 := by simp
  obtain ⟨L, hL⟩ : ∃ L, L = r * 16 := ⟨_, rfl⟩
  rw [hlen, ← hL] at hv hk1
  subst hv
  have hc : ∀ j, j < L → ∃ cg co, ao = some ⟨cg, co, none⟩ ∧ w3.cell? ⟨cg, co + j, none⟩ = some (.int .u8 0) := fun j hj => by
    rcases hk3 with ⟨_, h0⟩ | ⟨cg, co, rfl, _, hcc⟩
    · omega
    · have hz := hcc j (by rw [hlen]; omega)
      rw [List.getElem_replicate] at hz
      exact ⟨cg, co, rfl, hz⟩
  have hd3 := HD.out.1.keep hN.fp (fun _ _ h => h)
  have HC := Lib.hid hc
  have H3 := Lib.hid (And.intro hd3 (And.intro hN (And.intro hr1 (And.intro hr2 (And.intro hk1 hk2)))))
  have hLb : L ≤ 70000 := by omega
  have HLE := Lib.hid (And.intro hL hlen)
  clear hc hk3 hsl hN hd3 hcur hr1 hr2 hk1 hk2 hL hlen
  go_wp2_with fail
  go_loopw [6] (fun i wr => ∃ k : Nat, k ≤ L ∧ i = .int .i64 k ∧ wr = w3) (fun i _ => L - (RowKit.intOf i).toNat)
  case atStart => exact ⟨0, Nat.zero_le _, rfl, rfl⟩
  case round =>
    obtain ⟨k, hk, rfl, rfl⟩ := hrel
    by_cases hlt : k < L
    · obtain ⟨cg, co, rfl, hcc⟩ := HC.out k hlt
      have q1 : ((k : Int) < (L : Int)) = True := eq_true (by omega)
      have q2 : (k < L) = True := eq_true hlt
      have q13 : wrap64 ((k : Int) + 1) = ((k + 1 : Nat) : Int) := by unfold wrap64; omega
      have HZ := Lib.hid (And.intro hlt hk); clear hlt hk
      go_wp2
      go_roundw
      case rel => exact ⟨k + 1, HZ.out.1, congrArg (Value.int .i64) q13, trivial⟩
      case measure => have := HZ.out.1; rw [q13]; simp [RowKit.intOf]; omega
    · have q1 : ((k : Int) < (L : Int)) = False := eq_false (by omega)
      have hrb1 : ((1 : Int) ≤ (r : Int)) = True := eq_true (by have := H3.out.2.2.1; omega)
      have hrb2 : ((r : Int) ≤ 4096) = True := eq_true (by have := H3.out.2.2.2.1; omega)
      have hrb3 : (r : Int) * 16 = (L : Int) := by have := HLE.out.1; omega
      have hrb4 : wrap64 (L : Int) = (L : Int) := by unfold wrap64; omega
      have hrb5 : IntKind.i64.wrap (L : Int) = (L : Int) := by rw [IntKind.wrap_i64]; omega
      clear hlt hk
      go_wp2_with fail
      refine (Loose_c H3.out.1).mono ?_
      rintro e w4 ⟨lv, rfl, hl⟩
      rw [show loose (dOf (List.replicate (r * 16) 0)).wet = [] from loose_new _] at hl
      obtain ⟨lao, lcap, rfl, _⟩ := hl.cells
      have hd4 := H3.out.1.keep hl.fp (fun _ _ h => h)
      have H4 := Lib.hid (And.intro hd4 hl); clear hd4 hl
      go_wp2_with fail
      refine (Acts_c H4.out.1).mono ?_
      rintro e w5 ⟨rfl, rfl⟩
      go_wp2_with fail
      refine (Down_c H4.out.1).mono ?_
      rintro e w5 ⟨rfl, rfl⟩
      go_wp2
      go_ret
      refine ⟨rfl, ?_⟩
      exact ((HF.out.then HD.out.2.1).then H3.out.2.1.fp).then H4.out.2.fp
set_option maxHeartbeats 4000000 in
theorem SectorNew_rest_disk (n : Int) (r : Nat) (w : World) (h1 : 5000 < n) (h2 : n < 1099511627776) (hr : n.tmod 5000 = (r : Int)) (hr1 : 1 ≤ r) (hr2 : r ≤ 4096) : Calls Try.prog 4 #[.int .i64 n] w fun e w' => e = .returned (.bool true) ∧ Fp Non w w' := by
  have q0 : (5000 < n) = True := eq_true h1
  have q01 : (n < 1099511627776) = True := eq_true h2
  have q02 : n % 5000 = (r : Int) := by rw [← hr, Int.tmod_eq_emod_of_nonneg (by omega)]
  have hrb : r ≤ 4096 := hr2
  clear h1 h2
  go_enter Try.func4, Try.ntmps4
  go_wp2_with fail
  refine (head_c w).mono ?_
  rintro e w1 ⟨rfl, hf⟩
  have HF := Lib.hid hf; clear hf
  go_wp2_with fail
  refine (New_c w1.heap.size w1 r hr1 hr2 (Nat.le_refl _)).mono ?_
  rintro e w2 ⟨b, g, m, rfl, hd, hf2, hown⟩
  have HD := Lib.hid (And.intro hd (And.intro hf2 hown)); clear hd hf2 hown
  go_wp2_with fail
  refine (Bytes_c HD.out.1).mono ?_
  rintro e w3 ⟨v, rfl, hN⟩
  have hcur : (dOf (List.replicate (r * 16) 0)).cur = List.replicate (r * 16) 0 := rfl
  rw [hcur] at hN
  have hsl := hN.sl
  obtain ⟨ao, cap, hv, hk1, hk2, hk3⟩ := hsl.ex
  unfold maxLen at hk2
  have hlen : (List.replicate (r * 16) (0 : UInt8)).length = r * 16 := by simp
  obtain ⟨L, hL⟩ : ∃ L, L = r * 16 := ⟨_, rfl⟩
  rw [hlen, ← hL] at hv hk1
  subst hv
  have hc : ∀ j, j < L → ∃ cg co, ao = some ⟨cg, co, none⟩ ∧ w3.cell? ⟨cg, co + j, none⟩ = some (.int .u8 0) := fun j hj => by
    rcases hk3 with ⟨_, h0⟩ | ⟨cg, co, rfl, _, hcc⟩
    · omega
    · have hz := hcc j (by rw [hlen]; omega)
      rw [List.getElem_replicate] at hz
      exact ⟨cg, co, rfl, hz⟩
  have hd3 := HD.out.1.keep hN.fp (fun _ _ h => h)
  have HC := Lib.hid hc
  have H3 := Lib.hid (And.intro hd3 (And.intro hN (And.intro hr1 (And.intro hr2 (And.intro hk1 hk2)))))
  have hLb : L ≤ 70000 := by omega
  have HLE := Lib.hid (And.intro hL hlen)
  clear hc hk3 hsl hN hd3 hcur hr1 hr2 hk1 hk2 hL hlen
  go_wp2_with fail
  go_loopw [6] (fun i wr => ∃ k : Nat, k ≤ L ∧ i = .int .i64 k ∧ wr = w3) (fun i _ => L - (RowKit.intOf i).toNat)
  case atStart => exact ⟨0, Nat.zero_le _, rfl, rfl⟩
  case round =>
    obtain ⟨k, hk, rfl, rfl⟩ := hrel
    by_cases hlt : k < L
    · obtain ⟨cg, co, rfl, hcc⟩ := HC.out k hlt
      have q1 : ((k : Int) < (L : Int)) = True := eq_true (by omega)
      have q2 : (k < L) = True := eq_true hlt
      have q13 : wrap64 ((k : Int) + 1) = ((k + 1 : Nat) : Int) := by unfold wrap64; omega
      have HZ := Lib.hid (And.intro hlt hk); clear hlt hk
      go_wp2
      go_roundw
      case rel => exact ⟨k + 1, HZ.out.1, congrArg (Value.int .i64) q13, trivial⟩
      case measure => have := HZ.out.1; rw [q13]; simp [RowKit.intOf]; omega
    · have q1 : ((k : Int) < (L : Int)) = False := eq_false (by omega)
      have hrb1 : ((1 : Int) ≤ (r : Int)) = True := eq_true (by have := H3.out.2.2.1; omega)
      have hrb2 : ((r : Int) ≤ 4096) = True := eq_true (by have := H3.out.2.2.2.1; omega)
      have hrb3 : (r : Int) * 16 = (L : Int) := by have := HLE.out.1; omega
      have hrb4 : wrap64 (L : Int) = (L : Int) := by unfold wrap64; omega
      have hrb5 : IntKind.i64.wrap (L : Int) = (L : Int) := by rw [IntKind.wrap_i64]; omega
      clear hlt hk
      go_wp2_with fail
      refine (Loose_c H3.out.1).mono ?_
      rintro e w4 ⟨lv, rfl, hl⟩
      rw [show loose (dOf (List.replicate (r * 16) 0)).wet = [] from loose_new _] at hl
      obtain ⟨lao, lcap, rfl, _⟩ := hl.cells
      have hd4 := H3.out.1.keep hl.fp (fun _ _ h => h)
      have H4 := Lib.hid (And.intro hd4 hl); clear hd4 hl
      go_wp2_with fail
      refine (Acts_c H4.out.1).mono ?_
      rintro e w5 ⟨rfl, rfl⟩
      go_wp2_with fail
      refine (Down_c H4.out.1).mono ?_
      rintro e w5 ⟨rfl, rfl⟩
      go_wp2
      go_ret
      refine ⟨rfl, ?_⟩
      exact ((HF.out.then HD.out.2.1).then H3.out.2.1.fp).then H4.out.2.fp
theorem SectorNew_none (n : Int) (w : World) (hq : (5000 < n) = False ∨ (n < 1099511627776) = False) (hno : n < 1 ∨ 4096 < n) : Calls Try.prog 4 #[.int .i64 n] w fun e w' => e = .returned (.bool true) ∧ Fp Non w w' := by
  rcases hq with q0 | q0
  · by_cases hn1 : n < 1
    · have q1 : (n < 1) = True := eq_true hn1
      have HNO := Lib.hid hno
      clear hn1 hno
      go_enter Try.func4, Try.ntmps4
      go_wp2_with fail
      refine (head_c w).mono ?_
      rintro e w1 ⟨rfl, hf⟩
      have HF := Lib.hid hf; clear hf
      go_wp2_with fail
      refine (New_none w1 n HNO.out).mono ?_
      rintro e w2 ⟨rfl, rfl⟩
      skip
      go_wp2
      go_ret
      exact ⟨rfl, HF.out⟩
    · have q1 : (n < 1) = False := eq_false hn1
      have q2 : (4096 < n) = True := eq_true (by omega)
      have HNO := Lib.hid hno
      clear hn1 hno
      go_enter Try.func4, Try.ntmps4
      go_wp2_with fail
      refine (head_c w).mono ?_
      rintro e w1 ⟨rfl, hf⟩
      have HF := Lib.hid hf; clear hf
      go_wp2_with fail
      refine (New_none w1 n HNO.out).mono ?_
      rintro e w2 ⟨rfl, rfl⟩
      skip
      go_wp2
      go_ret
      exact ⟨rfl, HF.out⟩
  · have hge : ¬ n < 1099511627776 := of_eq_false q0
    have q1 : (n < 1) = False := eq_false (by omega)
    have q2 : (4096 < n) = True := eq_true (by omega)
    have q3 : (5000 < n) = True := eq_true (by omega)
    have HNO := Lib.hid hno
    clear hge hno
    go_enter Try.func4, Try.ntmps4
    go_wp2_with fail
    refine (head_c w).mono ?_
    rintro e w1 ⟨rfl, hf⟩
    have HF := Lib.hid hf; clear hf
    go_wp2_with fail
    refine (New_none w1 n HNO.out).mono ?_
    rintro e w2 ⟨rfl, rfl⟩
    skip
    go_wp2
    go_ret
    exact ⟨rfl, HF.out⟩
theorem SectorNew_rest_none (n : Int) (r : Nat) (w : World) (h1 : 5000 < n) (h2 : n < 1099511627776) (hr : n.tmod 5000 = (r : Int)) (hno : r < 1 ∨ 4096 < r) (hrb : r < 5000) : Calls Try.prog 4 #[.int .i64 n] w fun e w' => e = .returned (.bool true) ∧ Fp Non w w' := by
  have q0 : (5000 < n) = True := eq_true h1
  have q01 : (n < 1099511627776) = True := eq_true h2
  have q02 : n % 5000 = (r : Int) := by rw [← hr, Int.tmod_eq_emod_of_nonneg (by omega)]
  clear h1 h2
  by_cases hn1 : r < 1
  · obtain rfl : r = 0 := by omega
    clear hn1 hno hrb
    go_enter Try.func4, Try.ntmps4
    go_wp2_with fail
    refine (head_c w).mono ?_
    rintro e w1 ⟨rfl, hf⟩
    have HF := Lib.hid hf; clear hf
    go_wp2_with fail
    refine (New_none w1 ((0 : Nat) : Int) (by omega)).mono ?_
    rintro e w2 ⟨rfl, rfl⟩
    skip
    go_wp2
    go_ret
    exact ⟨rfl, HF.out⟩
  · have q1 : ((r : Int) < 1) = False := eq_false (by omega)
    have q2 : ((4096 : Int) < (r : Int)) = True := eq_true (by omega)
    have HNO := Lib.hid (show (r : Int) < 1 ∨ 4096 < (r : Int) by omega)
    clear hn1 hno
    go_enter Try.func4, Try.ntmps4
    go_wp2_with fail
    refine (head_c w).mono ?_
    rintro e w1 ⟨rfl, hf⟩
    have HF := Lib.hid hf; clear hf
    go_wp2_with fail
    refine (New_none w1 (r : Int) HNO.out).mono ?_
    rintro e w2 ⟨rfl, rfl⟩
    skip
    go_wp2
    go_ret
    exact ⟨rfl, HF.out⟩
theorem SectorNew_c (n : Int) (w : World) (_hb : -9223372036854775808 ≤ n ∧ n ≤ 9223372036854775807) : Calls Try.prog 4 #[.int .i64 n] w fun e w' => e = .returned (.bool true) ∧ Fp Non w w' := by
  by_cases h1 : 5000 < n
  · by_cases h2 : n < 1099511627776
    · have h0 : 0 ≤ n.tmod 5000 := by rw [Int.tmod_eq_emod_of_nonneg (by omega)]; omega
      obtain ⟨r, hr⟩ := Int.eq_ofNat_of_zero_le h0
      have hrb : r < 5000 := by rw [Int.tmod_eq_emod_of_nonneg (by omega)] at hr; omega
      by_cases h3 : 1 ≤ r ∧ r ≤ 4096
      · exact SectorNew_rest_disk n r w h1 h2 hr h3.1 h3.2
      · exact SectorNew_rest_none n r w h1 h2 hr (by omega) hrb
    · exact SectorNew_none n w (.inr (eq_false h2)) (by omega)
  · by_cases h3 : 1 ≤ n ∧ n ≤ 4096
    · obtain ⟨r, rfl⟩ := Int.eq_ofNat_of_zero_le (show 0 ≤ n by omega)
      exact SectorNew_disk r w (by omega) (by omega)
    · exact SectorNew_none n w (.inl (eq_false h1)) (by omega)
end Go.Proofs.Ytphjedpcebdbhaa
