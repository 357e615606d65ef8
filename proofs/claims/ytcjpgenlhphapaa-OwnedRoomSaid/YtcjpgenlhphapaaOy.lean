/- Plain: OwnedRoom: as many ranges as may be find room. -/
import Derived.Test.YtcjpgenlhphapaaOx
namespace Go.Proofs.Ytcjpgenlhphapaa
set_option linter.unusedVariables false
set_option linter.unusedSimpArgs false
open Pm

/-- "/p" and four digits. -/
def nm (i : Nat) : Bs := 47 :: ([112] ++ dig i)
theorem nm_0 : nm 0 = [47, 112, 48, 48, 48, 48] := by decide
theorem nm_num (i : Nat) (h : i < 60) : numbered [112] (i : Int) = some ([112] ++ dig i) := by
  unfold numbered
  have : isPart ([112] ++ dig ((i : Int)).toNat) = true := by rw [Int.toNat_natCast, isPart_dig [112] i 0 (by omega) (by omega)]; decide
  rw [if_pos ⟨by omega, by omega, this⟩, Int.toNat_natCast]
theorem nm_ok (i : Nat) (h : i < 60) : okP (nm i) = true := by
  have hp : isPart ([112] ++ dig i) = true := by rw [isPart_dig [112] i 0 (by omega) (by omega)]; decide
  have hP : Parts [[112] ++ dig i] := ⟨by simp, fun p h => by rw [List.mem_singleton] at h; subst h; exact hp⟩
  have e : joinP [[112] ++ dig i] = nm i := by unfold joinP jn nm; simp [flat]
  unfold okP
  rw [(split_iff (nm i) _).2 ⟨hP, e⟩]; rfl
theorem nm_inj {i j : Nat} (hi : i < 60) (hj : j < 60) (h : nm i = nm j) : i = j := by
  unfold nm at h
  injection h with _ h
  have := List.append_cancel_left h
  exact (dig_eq i j (by omega) (by omega)).1 this
/-- Ahead of round k. -/
structure RmI (ep : Int) (k : Nat) (l : List Hl) : Prop where
  rt : RtH l
  len : l.length = min k 32
  has : ∀ i, i < min k 32 → getH l (nm i) = some ⟨nm i, ep, 1⟩
  all : ∀ x ∈ l, ∃ i, i < min k 32 ∧ x.d = nm i
theorem rm_start (ep : Int) : RmI ep 0 [] := ⟨⟨by simp, fun x hx => by simp at hx, List.Pairwise.nil⟩, rfl, fun i hi => by omega, fun x hx => by simp at hx⟩
theorem rm_none {ep : Int} {k : Nat} {l : List Hl} (h : RmI ep k l) (hk : k < 60) : getH l (nm k) = none := getH_no fun x hx e => by
  obtain ⟨i, hi, hd⟩ := h.all x hx
  have := nm_inj (by omega) hk (hd.symm.trans e)
  omega
theorem rm_more {ep : Int} {k : Nat} {l : List Hl} (h : RmI ep k l) (hk : k < 60) (hep : 0 ≤ ep ∧ ep ≤ 65535) (h32 : k < 32) : inst l (nm k) ep = some (putH l ⟨nm k, ep, 1⟩) ∧ RmI ep (k + 1) (putH l ⟨nm k, ep, 1⟩) := by
  have hn := rm_none h hk
  have hl : l.length < 32 := by rw [h.len]; omega
  have hy := inst_yes h.rt (nm_ok k hk) (e := ep) ⟨by omega, by unfold mxN; omega⟩ (by unfold mayI; rw [hn]) (.inr hl)
  refine ⟨hy, ?_⟩
  have hm : min (k + 1) 32 = k + 1 := by omega
  have hm0 : min k 32 = k := by omega
  have hu := h.rt.up
  refine ⟨right_put h.rt (okH_of (nm_ok k hk) ⟨by omega, by unfold mxN; omega⟩ (by omega)) (.inr hl), ?_, fun i hi => ?_, fun x hx => ?_⟩
  · rw [len_put hu, if_neg (by simp only; rw [hn]; simp), h.len]; omega
  · rcases Nat.lt_or_eq_of_le (show i ≤ k by omega) with e | e
    · have hg := h.has i (by omega)
      have hmem := (getH_some hg).1
      exact getH_mem (up_put hu _) ((mem_put hu).2 (.inr ⟨hmem, fun e2 => by have := nm_inj (by omega) hk e2; omega⟩))
    · subst e; exact get_put hu ⟨nm i, ep, 1⟩
  · rcases (mem_put hu).1 hx with rfl | ⟨hx, _⟩
    · exact ⟨k, by omega, rfl⟩
    · obtain ⟨i, hi, hd⟩ := h.all x hx
      exact ⟨i, by omega, hd⟩
theorem rm_full {ep : Int} {k : Nat} {l : List Hl} (h : RmI ep k l) (hk : k < 60) (h32 : ¬ k < 32) : inst l (nm k) ep = none ∧ RmI ep (k + 1) l := by
  have hn := rm_none h hk
  have e1 : min (k + 1) 32 = 32 := by omega
  have e2 : min k 32 = 32 := by omega
  refine ⟨?_, ⟨h.rt, by rw [h.len, e1, e2], fun i hi => h.has i (by omega), fun x hx => by obtain ⟨i, hi, hd⟩ := h.all x hx; exact ⟨i, by omega, hd⟩⟩⟩
  unfold inst withR
  split
  · rw [if_neg]
    rintro (h1 | h1)
    · simp only at h1; rw [hn] at h1; cases h1
    · have := h.len; omega
  · rfl
theorem rm_again {ep : Int} {k : Nat} {l : List Hl} (h : RmI ep k l) (hep : 0 ≤ ep ∧ ep ≤ 65535) (hk : 0 < k) :
    (∃ b, inst l (nm 0) (ep + 1) = some b ∧ b.length = l.length) ∧ inst l (nm 0) ep = none := by
  have hg := h.has 0 (by omega)
  have hs : (getH l (nm 0)).isSome = true := by rw [hg]; rfl
  refine ⟨⟨_, inst_yes h.rt (nm_ok 0 (by omega)) (e := ep + 1) ⟨by omega, by unfold mxN; omega⟩ (by unfold mayI; rw [hg]; simp; omega) (.inl hs), ?_⟩, ?_⟩
  · rw [len_put h.rt.up, if_pos hs]
  · cases e : inst l (nm 0) ep with
    | none => rfl
    | some b =>
      have := (inst_some e).2.2.2.1
      unfold mayI at this
      rw [hg] at this
      simp at this
end Go.Proofs.Ytcjpgenlhphapaa
