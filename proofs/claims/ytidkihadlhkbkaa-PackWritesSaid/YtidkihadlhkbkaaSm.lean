/- Lists of texts that are the same; items as bytes. -/
import Derived.Test.YtidkihadlhkbkaaGr
namespace Go.Proofs.Ytidkihadlhkbkaa
open Go.RowKit Pm

set_option maxHeartbeats 1000000 in
theorem Same_c (v1 v2 : Value) (a : List Bs) (w : World) (h1 : Ss w v1 a) (h2 : Ss w v2 a) (hn : a.length ≤ 1000000) :
    Calls Try.prog 28 #[v1, v2] w fun e w' => e = .returned (.bool true) ∧ Fp Non w w' := by
  obtain ⟨a1, c1, rfl, _, _, k1⟩ := h1.ex
  obtain ⟨a2, c2, rfl, _, _, k2⟩ := h2.ex
  have H := Lib.hid (And.intro h1 h2); clear h1 h2
  go_enter Try.func28, Try.ntmps28
  go_wp2_with fail
  go_loopw [5] (fun i wr => ∃ k : Nat, k ≤ a.length ∧ i = .int .i64 k ∧ ∃ n, wr = w.drewN n) (fun i _ => a.length - (intOf i).toNat)
  case atStart => exact ⟨0, Nat.zero_le _, rfl, 0, rfl⟩
  case round =>
    obtain ⟨k, hk, rfl, n, rfl⟩ := hrel
    by_cases hlt : k < a.length
    · rcases k1 with k1 | ⟨g1, o1, rfl, _, k1⟩
      · omega
      rcases k2 with k2 | ⟨g2, o2, rfl, _, k2⟩
      · omega
      have e1 := k1 k hlt
      have e2 := k2 k hlt
      generalize a[k] = x at e1 e2
      have q1 : ((k : Int) < (a.length : Int)) = True := eq_true (by omega)
      have q2 : (k < a.length) = True := eq_true hlt
      clear k1 k2
      go_wp2
      go_quiet (fail)
      go_wp2
      go_roundw
      case rel => exact ⟨k + 1, by omega, by go_num, _, rfl⟩
      case measure => simp [intOf]; omega
    · have q1 : ((k : Int) < (a.length : Int)) = False := eq_false (by omega)
      have q2 : (k < a.length) = False := eq_false hlt
      clear hlt hk k1 k2
      go_wp2
      go_ret
      exact ⟨rfl, (Fp.refl _ _).drewN _⟩

/-- An item as bytes. -/
def encI (x : It) : Bs := if x.what = 0 then enc x.n.toNat else if x.what = 1 then encT x.s else if x.what = 2 then encTs x.ps else []
def encIs (l : List It) : Bs := (l.map encI).flatten
theorem encIs_take_succ (l : List It) (k : Nat) (h : k < l.length) : encIs (l.take (k + 1)) = encIs (l.take k) ++ encI l[k] := by
  rw [List.take_succ_eq_append_getElem h]; unfold encIs; rw [List.map_append, List.flatten_append]; simp
theorem encIs_drop (l : List It) (k : Nat) (h : k < l.length) : encIs (l.drop k) = encI l[k] ++ encIs (l.drop (k + 1)) := by
  rw [List.drop_eq_getElem_cons h]
  show (List.map encI (l[k] :: l.drop (k + 1))).flatten = _
  rw [List.map_cons, List.flatten_cons]; rfl

def okI (x : It) : Prop := x.what = 0 → 0 ≤ x.n ∧ x.n ≤ (M : Int)

theorem encI_len (x : It) (h : gsz x ≤ 20000) (hx : okI x) : (encI x).length ≤ 8 * (1 + gsz x) := by
  unfold encI
  unfold gsz at h ⊢
  split
  · rename_i h0
    have := hx h0
    have := (enc_len x.n.toNat (by omega)).2
    omega
  · split
    · have := (enc_len x.s.length (by unfold M; omega)).2
      unfold encT; rw [List.length_append]; omega
    · split
      · have := (enc_len x.ps.length (by unfold M; omega)).2
        have := encL_len x.ps (by unfold M; omega)
        unfold encTs; rw [List.length_append]; omega
      · simp
theorem tot_get (l : List It) (k : Nat) (h : k < l.length) : gsz l[k] ≤ tot l := by
  have h1 := tot_take_succ l k h
  have h2 : ∀ (r : List It) (k : Nat), tot (r.take k) ≤ tot r := by
    intro r
    induction r with
    | nil => intro k; simp [tot]
    | cons p r ih => intro k; cases k with
      | zero => simp [tot]
      | succ k => have := ih k; simp [tot] at this ⊢; omega
  have := h2 l (k + 1)
  omega
theorem encIs_len (l : List It) (h : l.length + tot l < 20000) : ∀ k, k ≤ l.length → (∀ j (hj : j < l.length), j < k → okI l[j]) → (encIs (l.take k)).length ≤ 8 * (k + tot (l.take k)) := by
  intro k
  induction k with
  | zero => intro _ _; simp [encIs]
  | succ k ih =>
    intro hk hok
    have hk' : k < l.length := by omega
    rw [encIs_take_succ l k hk', tot_take_succ l k hk', List.length_append]
    have h1 := ih (by omega) (fun j hj hj2 => hok j hj (by omega))
    have h2 := encI_len l[k] (by have := tot_get l k hk'; omega) (hok k hk' (by omega))
    omega
theorem tot_take_le (l : List It) (k : Nat) (_ : k ≤ l.length) : tot (l.take k) ≤ tot l := by
  rcases Nat.lt_or_ge k l.length with h1 | h1
  · have : ∀ (r : List It) (k : Nat), tot (r.take k) ≤ tot r := by
      intro r
      induction r with
      | nil => intro k; simp [tot]
      | cons p r ih => intro k; cases k with
        | zero => simp [tot]
        | succ k => have := ih k; simp [tot] at this ⊢; omega
    exact this l k
  · rw [List.take_of_length_le h1]; exact Nat.le_refl _
end Go.Proofs.Ytidkihadlhkbkaa
