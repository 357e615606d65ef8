/- The program's Sum: its contract over plain lists. -/
import Derived.Test.YtankfmlafmjaeaaGreatSm
namespace Go.Proofs.YtankfmlafmjaeaaGreat
set_option maxRecDepth 20000
open Go.RowKit Pm

theorem sumF_snoc (x y : Nat) (l : Bs) (c : UInt8) : sumF x y (l ++ [c]) = (((sumF x y l).1 + c.toNat + 1) % 65521, ((sumF x y l).2 + ((sumF x y l).1 + c.toNat + 1) % 65521) % 65521) := by
  induction l generalizing x y with
  | nil => rfl
  | cons d l ih => exact ih _ _
theorem sumOf_lt (s : Nat) (l : Bs) : (sumOf s l).1 < 65521 ∧ (sumOf s l).2 < 65521 := sumF_lt _ _ _ (Nat.mod_lt _ (by omega)) (by omega)
theorem sumOf_take (s : Nat) (l : Bs) (k : Nat) (h : k < l.length) : sumOf s (l.take (k + 1)) = (((sumOf s (l.take k)).1 + l[k].toNat + 1) % 65521, ((sumOf s (l.take k)).2 + ((sumOf s (l.take k)).1 + l[k].toNat + 1) % 65521) % 65521) := by
  rw [List.take_succ_eq_append_getElem h]; exact sumF_snoc _ _ _ _

theorem or_parts (x y : Nat) (hx : x < 65521) (hy : y < 65521) : bits BinOp.or IntKind.u32 ((y : Int) * 65536) (x : Int) = ((y * 65536 + x : Nat) : Int) := by
  have e : ((y : Int) * 65536) = ((y * 65536 : Nat) : Int) := by omega
  rw [e, u32_or_nat (y * 65536) x (by omega) (by omega)]
  have := Nat.shiftLeft_add_eq_or_of_lt (show x < 2 ^ 16 by omega) y
  rw [Nat.shiftLeft_eq] at this
  exact congrArg Int.ofNat this.symm

set_option maxHeartbeats 1000000 in
theorem Sum_c (s : Nat) (v : Value) (l : Bs) (w : World) (hs : s < 65536) (hl : Sl w v l) :
    Calls Tryz.prog 67 #[.int .u16 (s : Int), v] w fun e w' => e = .returned (.int .u32 ((sum s l : Nat) : Int)) ∧ w = w' := by
  obtain ⟨ao, cap, rfl, h1, h2, h3⟩ := hl.ex
  have hlm : l.length ≤ 9223372036854775807 := by unfold maxLen at h2; omega
  go_enter Tryz.func67, Tryz.ntmps67
  go_wp2_with fail
  go_loop [5, 6, 15] (fun x y i => ∃ k : Nat, k ≤ l.length ∧ i = .int .i64 k ∧ x = .int .u32 ((sumOf s (l.take k)).1 : Int) ∧ y = .int .u32 ((sumOf s (l.take k)).2 : Int)) (fun _ _ i => l.length - (RowKit.intOf i).toNat)
  case atStart =>
    exact ⟨0, Nat.zero_le _, rfl, by rw [List.take_zero]; simp [sumOf, sumF], by rw [List.take_zero]; simp [sumOf, sumF]⟩
  case round =>
    obtain ⟨k, hk, rfl, rfl, rfl⟩ := hrel
    have hb := sumOf_lt s (l.take k)
    by_cases hlt : k < l.length
    · have hst := sumOf_take s l k hlt
      obtain ⟨hx, hy⟩ := hb
      have hc := l[k].toNat_lt
      generalize (sumOf s (l.take k)).1 = x at *
      generalize (sumOf s (l.take k)).2 = y at *
      rcases h3 with ⟨rfl, rfl⟩ | ⟨g, o, rfl, hg, hcell⟩
      · omega
      have hck := hcell k hlt
      go_wp2
      go_round
      case rel => exact ⟨k + 1, by omega, by go_num, by rw [hst]; simp only [Int.natCast_emod, Int.natCast_add]; rfl, by rw [hst]; simp only [Int.natCast_emod, Int.natCast_add]; rfl⟩
      case measure => simp [RowKit.intOf]; omega
    · have hke : k = l.length := by omega
      subst hke
      rw [List.take_length] at *
      generalize hS : sumOf s l = S at *
      obtain ⟨x, y⟩ := S
      obtain ⟨hx, hy⟩ := hb
      simp only at hx hy ⊢
      have q1 : ((l.length : Int) < (l.length : Int)) = False := eq_false (by omega)
      clear hk hlt h3
      go_wp2
      go_ret
      exact ⟨ret_int (by rw [or_parts x y hx hy]; unfold sum; rw [hS]), rfl⟩

set_option maxHeartbeats 1000000 in
theorem RSum_c (s : Nat) (v : Value) (l : Bs) (w : World) (hs : s < 65536) (hl : Sl w v l) :
    Calls Tryz.prog 75 #[.int .u16 (s : Int), v] w fun e w' => e = .returned (.int .u32 ((sum s l : Nat) : Int)) ∧ w = w' := by
  obtain ⟨ao, cap, rfl, h1, h2, h3⟩ := hl.ex
  have hlm : l.length ≤ 9223372036854775807 := by unfold maxLen at h2; omega
  go_enter Tryz.func75, Tryz.ntmps75
  go_wp2_with fail
  go_loop [5, 6, 7] (fun x y i => ∃ k : Nat, k ≤ l.length ∧ i = .int .i64 k ∧ x = .int .i64 ((sumOf s (l.take k)).1 : Int) ∧ y = .int .i64 ((sumOf s (l.take k)).2 : Int)) (fun _ _ i => l.length - (RowKit.intOf i).toNat)
  case atStart =>
    exact ⟨0, Nat.zero_le _, rfl, by rw [List.take_zero]; simp [sumOf, sumF], by rw [List.take_zero]; simp [sumOf, sumF]⟩
  case round =>
    obtain ⟨k, hk, rfl, rfl, rfl⟩ := hrel
    have hb := sumOf_lt s (l.take k)
    by_cases hlt : k < l.length
    · have hst := sumOf_take s l k hlt
      obtain ⟨hx, hy⟩ := hb
      have hc := l[k].toNat_lt
      generalize (sumOf s (l.take k)).1 = x at *
      generalize (sumOf s (l.take k)).2 = y at *
      rcases h3 with ⟨rfl, rfl⟩ | ⟨g, o, rfl, hg, hcell⟩
      · omega
      have hck := hcell k hlt
      have t1 : ((x : Int) + (l[k].toNat : Int) + 1).tmod 65521 = (((x + l[k].toNat + 1) % 65521 : Nat) : Int) := by rw [Int.tmod_eq_emod_of_nonneg (by omega)]; omega
      have t2 : ((y : Int) + (((x + l[k].toNat + 1) % 65521 : Nat) : Int)).tmod 65521 = (((y + (x + l[k].toNat + 1) % 65521) % 65521 : Nat) : Int) := by rw [Int.tmod_eq_emod_of_nonneg (by omega)]; omega
      go_wp2
      go_round
      case rel => exact ⟨k + 1, by omega, by go_num, by rw [hst]; simp only [Int.natCast_emod, Int.natCast_add]; rfl, by rw [hst]; simp only [Int.natCast_emod, Int.natCast_add]; rfl⟩
      case measure => simp [RowKit.intOf]; omega
    · have hke : k = l.length := by omega
      subst hke
      rw [List.take_length] at *
      generalize hS : sumOf s l = S at *
      obtain ⟨x, y⟩ := S
      obtain ⟨hx, hy⟩ := hb
      simp only at hx hy ⊢
      have q1 : ((l.length : Int) < (l.length : Int)) = False := eq_false (by omega)
      clear hk hlt h3
      go_wp2
      go_ret
      exact ⟨ret_int (by unfold sum; rw [hS]; simp), rfl⟩

end Go.Proofs.YtankfmlafmjaeaaGreat
