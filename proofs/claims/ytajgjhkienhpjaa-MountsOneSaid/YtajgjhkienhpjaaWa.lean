import Derived.Test.YtajgjhkienhpjaaProg
import Derived.Test.YtajgjhkienhpjaaPm
import Derived.WalkKit
import Derived.WalkSpells
import Derived.WalkLawsBesides
import Derived.Deep.QuietTactic
import Derived.BigQuiet
import Derived.Lib.Hide
namespace Go.Proofs.Ytajgjhkienhpjaa
set_option maxRecDepth 20000
open Go.RowKit Pm

attribute [go_sem] B_size B_toList B_get B_extract B_app lit_app app_lit lit_extract

/-- As w, but for draws. -/
def Dr (w w' : World) : Prop := ∃ n, w' = w.drewN n
theorem Dr.refl (w : World) : Dr w w := ⟨0, rfl⟩
theorem Dr.of (w : World) (n : Nat) : Dr w (w.drewN n) := ⟨n, rfl⟩
theorem Dr.trans {a b c : World} (h : Dr a b) (k : Dr b c) : Dr a c := by
  obtain ⟨n, rfl⟩ := h; obtain ⟨m, rfl⟩ := k; exact ⟨n + m, by rw [World.drewN_drewN]⟩
theorem Dr.below {w w' : World} (h : Dr w w') (b0 : Nat) : Below b0 w w' := by
  obtain ⟨n, rfl⟩ := h; exact below_drewN (Below.refl _ _) n
theorem Dr.size {w w' : World} (h : Dr w w') : w'.heap.size = w.heap.size := by obtain ⟨n, rfl⟩ := h; rfl
theorem Dr.owns {w w' : World} (h : Dr w w') {b0 : Nat} {e : TypeId} {k : Nat} {v : Value} {n : Nat} {xs : List Value} (ho : w.ownsRow b0 e k v n xs) : w'.ownsRow b0 e k v n xs := by
  obtain ⟨n, rfl⟩ := h; exact ho

theorem ret_bool {a b : Bool} (h : a = b) : Ending.returned (.bool a) = .returned (.bool b) := by rw [h]
theorem ret_int {k : IntKind} {a b : Int} (h : a = b) : Ending.returned (.int k a) = .returned (.int k b) := by rw [h]

set_option maxHeartbeats 400000 in
theorem isPartByte_c (b : Nat) (w : World) :
    Calls Try.prog 51 #[.int .u8 b] w fun e w' => e = .returned (.bool (okN b)) ∧ w = w' := by
  go_enter Try.func51, Try.ntmps51
  go_wp2
  all_goals (go_ret; refine ⟨ret_bool ?_, rfl⟩; unfold okN; rw [Bool.eq_iff_iff]; simp; omega)

set_option maxHeartbeats 400000 in
theorem partLen_c (l : Bs) (w : World) (hl : l.length ≤ 9223372036854775807) :
    Calls Try.prog 49 #[.string (B l)] w fun e w' => e = .returned (.int .i64 (pl 12 l)) ∧ w = w' := by
  go_enter Try.func49, Try.ntmps49
  go_wp2
  go_loop [3] (fun n => ∃ k : Nat, k ≤ 12 ∧ k ≤ l.length ∧ n = .int .i64 k ∧ Hid (∀ i (h : i < l.length), i < k → okB l[i] = true)) (fun n => 12 - (intOf n).toNat)
  case atStart => exact ⟨0, by omega, by omega, rfl, fun i h hn => by omega⟩
  case round =>
    obtain ⟨k, hk, hkl, rfl, ha⟩ := hrel
    by_cases h1 : k < l.length
    · by_cases h2 : k < 12
      · go_wp2_with (go_at_call 51; refine (isPartByte_c _ _).mono ?_; rintro e w' ⟨rfl, rfl⟩)
        · have hok : okN (l[k].toNat) = true := by assumption
          go_round
          case rel => exact ⟨k + 1, by omega, by omega, by go_num, fun i hi hn => by
            by_cases hik : i = k
            · subst hik; exact hok
            · exact ha i hi (by omega)⟩
          case measure => simp [intOf]; omega
        · have hok : okN (l[k].toNat) = false := by assumption
          go_ret
          exact ⟨ret_int (by rw [pl_stop k l (by omega) (by omega) ha (Or.inr (Or.inr ⟨h1, hok⟩))]), rfl⟩
      · go_wp2
        go_ret
        exact ⟨ret_int (by rw [pl_stop k l (by omega) (by omega) ha (Or.inl (by omega))]), rfl⟩
    · go_wp2
      go_ret
      exact ⟨ret_int (by rw [pl_stop k l (by omega) (by omega) ha (Or.inr (Or.inl (by omega)))]), rfl⟩

set_option maxHeartbeats 400000 in
theorem cut_c (l : Bs) (w : World) (hl : l.length ≤ 9223372036854775807) :
    Calls Try.prog 47 #[.string (B l)] w fun e w' => e = .returned (.tuple #[.string (B (cut l).1), .string (B (cut l).2)]) ∧ Dr w w' := by
  match l, hl with
  | [], _ =>
    go_enter Try.func47, Try.ntmps47
    go_wp2
    go_ret2
    exact ⟨rfl, Dr.refl _⟩
  | c :: r, hl =>
    simp at hl
    by_cases hc : c = 47
    · subst hc
      go_enter Try.func47, Try.ntmps47
      have h1 := pl_le 12 r
      have h2 := pl_len 12 r
      go_wp2_with (go_at_call 49; refine (partLen_c r _ (by omega)).mono ?_; rintro e w' ⟨rfl, rfl⟩)
      go_quiet (fail)
      go_wp2
      go_ret2
      refine ⟨?_, Dr.of _ _⟩
      have e1 : 1 + pl 12 r - 1 = pl 12 r := by omega
      have e2 : (List.drop (1 + pl 12 r) (47 :: r)) = r.drop (pl 12 r) := by rw [Nat.add_comm, List.drop_succ_cons]
      have e3 : List.take (r.length + 1 - (1 + pl 12 r)) (r.drop (pl 12 r)) = r.drop (pl 12 r) := List.take_of_length_le (by simp; omega)
      show Ending.returned (.tuple #[.string (B (List.take (1 + pl 12 r - 1) r)), .string (B (List.take (r.length + 1 - (1 + pl 12 r)) (List.drop (1 + pl 12 r) (47 :: r))))]) = _
      rw [e1, e2, e3]
      rfl
    · have hb : ((c.toNat : Int) != 47) = true := by simp; intro h; apply hc; apply UInt8.toNat.inj; exact Int.ofNat_inj.1 h
      go_enter Try.func47, Try.ntmps47
      go_wp2
      go_ret2
      exact ⟨by simp [cut, hc]; rfl, Dr.refl _⟩
end Go.Proofs.Ytajgjhkienhpjaa
