/- Plain lists: what a path is made of, both ways. -/
import Derived.Test.YtajgjhkienhpjaaPm
namespace Go.Proofs.Ytajgjhkienhpjaa
set_option maxRecDepth 20000
namespace Pm

theorem pl_take : ∀ (k : Nat) (l : Bs), pl k (l.take (pl k l)) = pl k l
  | 0, l => by simp [pl]
  | k + 1, [] => by simp [pl]
  | k + 1, c :: r => by
    by_cases h : okB c = true
    · simp [pl, h, pl_take k r]
    · simp [pl, h]

theorem pl_app : ∀ (k : Nat) (p r : Bs), pl k p = p.length → (r = [] ∨ ∃ t, r = 47 :: t) → pl k (p ++ r) = p.length
  | 0, [], r, _, _ => by simp [pl]
  | 0, c :: p, r, h, _ => by simp [pl] at h
  | k + 1, [], r, _, h => by
    rcases h with rfl | ⟨t, rfl⟩
    · simp [pl]
    · simp [pl, show okB 47 = false from by decide]
  | k + 1, c :: p, r, h, hr => by
    by_cases hc : okB c = true
    · simp [pl, hc] at h ⊢
      exact pl_app k p r h hr
    · simp [pl, hc] at h

theorem isPart_iff (p : Bs) : isPart p = true ↔ p ≠ [] ∧ pl 12 p = p.length := by
  unfold isPart; cases p <;> simp

theorem isPart_len {p : Bs} (h : isPart p = true) : 1 ≤ p.length ∧ p.length ≤ 12 := by
  rw [isPart_iff] at h
  have := pl_le 12 p
  cases p with
  | nil => exact absurd rfl h.1
  | cons c r => simp at h ⊢; omega

theorem flat_head (r : List Bs) : flat r = [] ∨ ∃ t, flat r = 47 :: t := by
  cases r with
  | nil => exact Or.inl rfl
  | cons p r => exact Or.inr ⟨_, flat_cons p r⟩

theorem flat_eq_nil {r : List Bs} (h : flat r = []) : r = [] := by
  cases r with
  | nil => rfl
  | cons p r => rw [flat_cons] at h; cases h

theorem cut_flat (p : Bs) (r : List Bs) (h : isPart p = true) : cut (flat (p :: r)) = (p, flat r) := by
  rw [isPart_iff] at h
  rw [flat_cons]
  have e := pl_app 12 p (flat r) h.2 (flat_head r)
  simp [cut, e]

theorem cut_made {l : Bs} (h : (cut l).1 ≠ []) : isPart (cut l).1 = true ∧ l = 47 :: ((cut l).1 ++ (cut l).2) := by
  rw [isPart_iff]
  cases l with
  | nil => exact absurd rfl h
  | cons c r =>
    by_cases hc : c = 47
    · subst hc
      simp [cut] at h ⊢
      refine ⟨h, ?_⟩
      rw [pl_take]
      have := pl_len 12 r
      omega
    · simp [cut, hc] at h

def Parts (ps : List Bs) : Prop := ps.length ≤ 6 ∧ ∀ p ∈ ps, isPart p = true

theorem splitN_made : ∀ (n : Nat) (l : Bs) (ps : List Bs), splitN n l = some ps → ps ≠ [] ∧ ps.length ≤ n ∧ (∀ p ∈ ps, isPart p = true) ∧ flat ps = l
  | 0, l, ps, h => by simp [splitN] at h
  | n + 1, l, ps, h => by
    unfold splitN at h
    by_cases h1 : (cut l).1 = []
    · simp [h1] at h
    · have hm := cut_made h1
      rw [if_neg h1] at h
      by_cases h2 : (cut l).2 = []
      · rw [if_pos h2] at h
        injection h with h; subst h
        refine ⟨by simp, by simp, ?_, ?_⟩
        · intro p hp; simp at hp; subst hp; exact hm.1
        · rw [flat_cons, flat_nil]; rw [h2] at hm; exact hm.2.symm
      · rw [if_neg h2] at h
        cases hr : splitN n (cut l).2 with
        | none => simp [hr] at h
        | some qs =>
          simp [hr] at h; subst h
          have ih := splitN_made n _ _ hr
          refine ⟨by simp, by simpa using ih.2.1, ?_, ?_⟩
          · intro p hp; simp at hp
            rcases hp with rfl | hp
            · exact hm.1
            · exact ih.2.2.1 p hp
          · rw [flat_cons, ih.2.2.2]; exact hm.2.symm

theorem splitN_flat : ∀ (n : Nat) (ps : List Bs), ps ≠ [] → ps.length ≤ n → (∀ p ∈ ps, isPart p = true) → splitN n (flat ps) = some ps
  | _, [], h, _, _ => absurd rfl h
  | 0, p :: r, _, h, _ => by simp at h
  | n + 1, p :: r, _, hl, hp => by
    have hc := cut_flat p r (hp p (by simp))
    have hp0 := (isPart_iff p).1 (hp p (by simp))
    unfold splitN
    rw [hc]
    simp only
    rw [if_neg hp0.1]
    by_cases hr : r = []
    · subst hr; rw [if_pos flat_nil]
    · rw [if_neg (fun h => hr (flat_eq_nil h)), splitN_flat n r hr (by simpa using hl) (fun q hq => hp q (by simp [hq]))]
      rfl

theorem split_iff (l : Bs) (ps : List Bs) : split l = some ps ↔ Parts ps ∧ joinP ps = l := by
  unfold split Parts
  by_cases hl : l = [47]
  · subst hl
    rw [if_pos rfl]
    constructor
    · intro h; injection h with h; subst h; exact ⟨⟨by simp, by simp⟩, rfl⟩
    · rintro ⟨⟨_, hp⟩, hj⟩
      cases ps with
      | nil => rfl
      | cons p r =>
        have := (isPart_len (hp p (by simp))).1
        rw [joinP_cons, flat_cons] at hj
        simp at hj
        rw [hj.1] at this; simp at this
  · rw [if_neg hl]
    constructor
    · intro h
      have := splitN_made 6 l ps h
      refine ⟨⟨this.2.1, this.2.2.1⟩, ?_⟩
      cases ps with
      | nil => exact absurd rfl this.1
      | cons p r => rw [joinP_cons]; exact this.2.2.2
    · rintro ⟨⟨hn, hp⟩, rfl⟩
      cases ps with
      | nil => exact absurd rfl hl
      | cons p r => rw [joinP_cons]; exact splitN_flat 6 _ (by simp) hn hp

theorem split_join {ps : List Bs} (h : Parts ps) : split (joinP ps) = some ps := (split_iff _ _).2 ⟨h, rfl⟩
theorem joinP_inj {a b : List Bs} (ha : Parts a) (hb : Parts b) (h : joinP a = joinP b) : a = b := by
  have h1 := split_join ha
  rw [h, split_join hb] at h1
  injection h1 with h1; exact h1.symm

theorem Parts.lens {ps : List Bs} (h : Parts ps) : Pm.lens ps ≤ 72 := by
  obtain ⟨hn, hp⟩ := h
  have key : ∀ (qs : List Bs), (∀ p ∈ qs, isPart p = true) → Pm.lens qs ≤ 12 * qs.length := by
    intro qs
    induction qs with
    | nil => intro _; simp [Pm.lens]
    | cons q r ih =>
      intro h
      have h1 := (isPart_len (h q (by simp))).2
      have h2 := ih (fun p hp => h p (by simp [hp]))
      simp [Pm.lens] at h2 ⊢; omega
  have := key ps hp
  omega

/- The functions of package path, on lists. -/
def parent (l : Bs) : Option Bs := match split l with
  | some (p :: r) => some (joinP (p :: r).dropLast)
  | _ => none
def last (l : Bs) : Bs := match split l with
  | some (p :: r) => (p :: r).getLast (by simp)
  | _ => []
def join (l q : Bs) : Option Bs := match split l with
  | some ps => if isPart q = true ∧ ps.length < 6 then some (joinP (ps ++ [q])) else none
  | none => none
def inB (l q : Bs) : Bool := match split l, split q with
  | some a, some b => b.isPrefixOf a
  | _, _ => false
def dig (n : Nat) : Bs := [UInt8.ofNat (48 + n / 1000), UInt8.ofNat (48 + n / 100 % 10), UInt8.ofNat (48 + n / 10 % 10), UInt8.ofNat (48 + n % 10)]
def numbered (p : Bs) (n : Int) : Option Bs := if 0 ≤ n ∧ n ≤ 9999 ∧ isPart (p ++ dig n.toNat) = true then some (p ++ dig n.toNat) else none

end Pm
end Go.Proofs.Ytajgjhkienhpjaa
