/- count: how many bytes a record has by its header. -/
import Derived.Test.YtankfmlafmjaeaaGreatFa
namespace Go.Proofs.YtankfmlafmjaeaaGreat
set_option maxRecDepth 20000
open Go.RowKit Pm

/-- The number's first k bytes. -/
def ck (h : Bs) (k : Nat) : Nat := (((h.drop 5).take 4).take k).foldl (fun n c => n * 256 + c.toNat) 0
theorem ck_all (h : Bs) (_hl : h.length = 16) : ck h 4 = cnt h := by unfold ck cnt; rw [List.take_take]; rfl
theorem ck_step (h : Bs) (hl : h.length = 16) (k : Nat) (hk : k < 4) : ck h (k + 1) = ck h k * 256 + (h[5 + k]'(by omega)).toNat := by
  unfold ck
  have hlen : k < ((h.drop 5).take 4).length := by simp; omega
  rw [List.take_succ_eq_append_getElem hlen, List.foldl_append]
  simp
theorem ck_lt (h : Bs) (hl : h.length = 16) : ∀ k, k ≤ 4 → ck h k < 256 ^ k
  | 0, _ => by simp [ck]
  | k + 1, hk => by
    rw [ck_step h hl k (by omega), Nat.pow_succ]
    have := ck_lt h hl k (by omega)
    have hc := (h[5 + k]'(by omega)).toNat_lt
    omega
theorem i64_or_nat (a b : Nat) (ha : a < 9223372036854775808) (hb : b < 9223372036854775808) : bits .or .i64 (a : Int) (b : Int) = ((a ||| b : Nat) : Int) := by
  have hx : a ||| b < 2 ^ 63 := Nat.or_lt_two_pow (by omega) (by omega)
  show IntKind.i64.wrap ((BitVec.ofInt 64 (a : Int) ||| BitVec.ofInt 64 (b : Int)).toNat : Int) = _
  rw [BitVec.toNat_or, ofInt_u64 a (by omega), ofInt_u64 b (by omega), IntKind.wrap_i64]
  omega
theorem or_byte (n c : Nat) (hn : n < 16777216) (hc : c < 256) : bits BinOp.or IntKind.i64 ((n : Int) * 256) (c : Int) = ((n * 256 + c : Nat) : Int) := by
  have e : ((n : Int) * 256) = ((n * 256 : Nat) : Int) := by omega
  rw [e, i64_or_nat (n * 256) c (by omega) (by omega)]
  have := Nat.shiftLeft_add_eq_or_of_lt (show c < 2 ^ 8 by omega) n
  rw [Nat.shiftLeft_eq] at this
  exact congrArg Int.ofNat this.symm

set_option maxHeartbeats 1000000 in
theorem count_c (v : Value) (h : Bs) (w : World) (hv : Sl w v h) (hl : h.length = 16) :
    Calls Tryz.prog 69 #[v] w fun e w' => e = .returned (.int .i64 (cnt h : Int)) ∧ w' = w := by
  obtain ⟨g, o, cap, rfl, h1, h2, hg⟩ := hv.at (by omega)
  obtain ⟨ao, cap', e, h1', h2', h3'⟩ := hv.ex
  injection e with e1 e2 e3
  subst e1 e3
  have hcell : ∀ j (hj : j < h.length), w.cell? ⟨g, o + j, none⟩ = some (.int .u8 (h[j].toNat : Int)) := by
    rcases h3' with ⟨h0, _⟩ | ⟨g2, o2, e, _, hc⟩
    · cases h0
    · injection e with e
      injection e with e1 e2
      subst e1 e2
      exact hc
  have hall := ck_all h hl
  rw [hl] at h1 ⊢
  have q0 : (cap = 5) = False := eq_false (by omega)
  have q1 : ((4 : Int) ≤ ((cap - 5 : Nat) : Int)) = True := eq_true (by omega)
  have q2 : (4 ≤ cap - 5) = True := eq_true (by omega)
  have HX := Lib.hid (And.intro hv (And.intro h1 (And.intro h2 hall)))
  clear h1 h2 h1' h2' hg h3' hv hall
  go_enter Tryz.func69, Tryz.ntmps69
  go_wp2_with fail
  go_loopw [3, 10] (fun n i wr => ∃ k : Nat, k ≤ 4 ∧ i = .int .i64 k ∧ n = .int .i64 (ck h k : Int) ∧ wr = w) (fun _ i _ => 4 - (RowKit.intOf i).toNat)
  case atStart => exact ⟨0, Nat.zero_le _, rfl, rfl, rfl⟩
  case round =>
    obtain ⟨k, hk, rfl, rfl, rfl⟩ := hrel
    have hb := ck_lt h hl k hk
    by_cases hlt : k < 4
    · have hst := ck_step h hl k hlt
      have hc := hcell (5 + k) (by omega)
      rw [← Nat.add_assoc] at hc
      have hcl := (h[5 + k]'(by omega)).toNat_lt
      generalize (h[5 + k]'(by omega)).toNat = c at *
      generalize ck h k = n at *
      have hn : n < 16777216 := by
        have : k = 0 ∨ k = 1 ∨ k = 2 ∨ k = 3 := by omega
        rcases this with rfl | rfl | rfl | rfl <;> omega
      have q3 := or_byte n c hn hcl
      go_wp2
      go_roundw
      case rel => exact ⟨k + 1, by omega, by go_num, by rw [hst]; simp only [Int.natCast_add, Int.natCast_mul]; rfl, trivial⟩
      case measure => simp [RowKit.intOf]; omega
    · have hke : k = 4 := by omega
      subst hke
      have hall := HX.out.2.2.2
      rw [hall]
      go_wp2
      go_ret
      exact ⟨rfl, rfl⟩
end Go.Proofs.YtankfmlafmjaeaaGreat
