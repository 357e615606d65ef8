/- Plain lists: what the laws of layer 1 say. -/
import Derived.Test.YtajgjhkienhpjaaPn
import GoSem.Op.String
namespace Go.Proofs.Ytajgjhkienhpjaa
set_option maxRecDepth 20000
namespace Pm

theorem Parts.init {p : Bs} {r : List Bs} (h : Parts (p :: r)) : Parts (p :: r).dropLast := by
  obtain ⟨h1, h2⟩ := h
  refine ⟨by simp at h1 ⊢; omega, fun q hq => h2 q (List.dropLast_subset _ hq)⟩
theorem Parts.snoc {ps : List Bs} {q : Bs} (h : Parts ps) (hn : ps.length < 6) (hq : isPart q = true) : Parts (ps ++ [q]) := by
  obtain ⟨h1, h2⟩ := h
  refine ⟨by simp; omega, fun x hx => ?_⟩
  rw [List.mem_append] at hx
  rcases hx with hx | hx
  · exact h2 x hx
  · simp at hx; subst hx; exact hq

theorem joinP_len {ps : List Bs} (h : Parts ps) : (joinP ps).length ≤ 100 := by
  have h1 := h.1
  have h2 := h.lens
  cases ps with
  | nil => simp [joinP, jn]
  | cons p r => rw [joinP_cons, flat_len]; omega

theorem parent_some {l a : Bs} (h : parent l = some a) :
    ∃ ps, split l = some ps ∧ join a (last l) = some l ∧ a.length ≤ 100 ∧ (last l).length ≤ 100 ∧ l.length ≤ 100 ∧ inB l a = true ∧ inB a l = false := by
  unfold parent at h
  split at h
  · rename_i p r hs
    injection h with h; subst h
    have hP := ((split_iff _ _).1 hs)
    have hI := hP.1.init
    have hl : last l = (p :: r).getLast (by simp) := by unfold last; rw [hs]
    have hq : isPart ((p :: r).getLast (by simp)) = true := hP.1.2 _ (List.getLast_mem _)
    have hlt : (p :: r).dropLast.length < 6 := by have := hP.1.1; simp at this ⊢; omega
    refine ⟨p :: r, hs, ?_, joinP_len hI, ?_, ?_, ?_, ?_⟩
    · rw [hl]; unfold join
      rw [split_join hI]
      simp only
      rw [if_pos ⟨hq, hlt⟩, List.dropLast_concat_getLast, hP.2]
    · rw [hl]; have := (isPart_len hq).2; omega
    · rw [← hP.2]; exact joinP_len hP.1
    · unfold inB; rw [hs, split_join hI]
      simp only [List.isPrefixOf_iff_prefix]
      exact List.dropLast_prefix _
    · unfold inB; rw [hs, split_join hI]
      simp only
      rw [← Bool.not_eq_true, List.isPrefixOf_iff_prefix]
      intro hh; have := hh.length_le; simp at this; omega
  · cases h

theorem parent_none {l : Bs} (h : parent l = none) : (split l).isSome = (l == [47]) ∧ last l = [] := by
  unfold parent at h
  split at h
  · cases h
  · rename_i hx
    cases hs : split l with
    | none =>
      refine ⟨?_, by unfold last; rw [hs]⟩
      have : l ≠ [47] := by rintro rfl; cases hs
      simpa using this
    | some ps =>
      cases ps with
      | nil =>
        have := ((split_iff _ _).1 hs).2
        refine ⟨?_, by unfold last; rw [hs]⟩
        rw [← this]; rfl
      | cons p r => exact absurd hs (hx p r)

theorem join_some {l q c : Bs} (h : join l q = some c) : ∃ cs, split c = some cs ∧ parent c = some l ∧ last c = q ∧ c.length ≤ 100 := by
  unfold join at h
  split at h
  · rename_i ps hs
    split at h
    · rename_i hc
      injection h with h; subst h
      have hP := (split_iff _ _).1 hs
      have hS := hP.1.snoc hc.2 hc.1
      have h1 := split_join hS
      refine ⟨_, h1, ?_, ?_, joinP_len hS⟩
      · unfold parent; rw [h1]
        cases hh : ps ++ [q] with
        | nil => simp at hh
        | cons a b => simp only; rw [← hh]; simp [hP.2]
      · unfold last; rw [h1]
        cases hh : ps ++ [q] with
        | nil => simp at hh
        | cons a b => simp only [← hh]; simp
    · cases h
  · cases h

theorem in_refl {p : Bs} {ps : List Bs} (h : split p = some ps) : inB p p = true := by
  unfold inB; rw [h]; simp only [List.isPrefixOf_iff_prefix]; exact List.prefix_refl _
theorem in_root {p : Bs} {ps : List Bs} (h : split p = some ps) : inB p [47] = true := by
  unfold inB; rw [h, show split [47] = some [] from rfl]; simp only [List.isPrefixOf_iff_prefix]; exact List.nil_prefix
theorem in_none {p : Bs} (h : split p = none) (q : Bs) : inB p q = false := by unfold inB; rw [h]
theorem in_some {p q : Bs} (h : inB p q = true) : ∃ a b, split p = some a ∧ split q = some b ∧ b <+: a := by
  unfold inB at h
  cases hp : split p with
  | none => simp [hp] at h
  | some a =>
    cases hq : split q with
    | none => simp [hp, hq] at h
    | some b => rw [hp, hq] at h; exact ⟨a, b, rfl, rfl, List.isPrefixOf_iff_prefix.1 h⟩
theorem in_of {p q : Bs} {a b : List Bs} (h1 : split p = some a) (h2 : split q = some b) (h : b <+: a) : inB p q = true := by
  unfold inB; rw [h1, h2]; exact List.isPrefixOf_iff_prefix.2 h
theorem in_trans {p q s : Bs} (h : inB p q = true) (k : inB q s = true) : inB p s = true := by
  obtain ⟨a, b, h1, h2, h3⟩ := in_some h
  obtain ⟨b', c, k1, k2, k3⟩ := in_some k
  rw [h2] at k1; injection k1 with k1; subst k1
  exact in_of h1 k2 (k3.trans h3)
theorem in_anti {p q : Bs} (h : inB p q = true) (k : inB q p = true) : p = q := by
  obtain ⟨a, b, h1, h2, h3⟩ := in_some h
  obtain ⟨b', a', k1, k2, k3⟩ := in_some k
  rw [h2] at k1; injection k1 with k1; subst k1
  rw [h1] at k2; injection k2 with k2; subst k2
  have e : b = a := h3.eq_of_length (Nat.le_antisymm h3.length_le k3.length_le)
  rw [← ((split_iff _ _).1 h1).2, ← ((split_iff _ _).1 h2).2, e]

/-- Two parts behind one path. -/
theorem sides {p a b x y : Bs} (hx : join p a = some x) (hy : join p b = some y) :
    inB x p = true ∧ inB y p = true ∧ inB x y = (a == b) ∧ inB p x = false := by
  unfold join at hx hy
  cases hs : split p with
  | none => rw [hs] at hx; cases hx
  | some ps =>
    rw [hs] at hx hy
    simp only at hx hy
    split at hx
    · rename_i ha
      split at hy
      · rename_i hb
        injection hx with hx; subst hx
        injection hy with hy; subst hy
        have hP := (split_iff _ _).1 hs
        have e1 := split_join (hP.1.snoc ha.2 ha.1)
        have e2 := split_join (hP.1.snoc hb.2 hb.1)
        refine ⟨in_of e1 hs (List.prefix_append _ _), in_of e2 hs (List.prefix_append _ _), ?_, ?_⟩
        · rw [Bool.eq_iff_iff]
          constructor
          · intro h
            obtain ⟨u, v, k1, k2, k3⟩ := in_some h
            rw [e1] at k1; injection k1 with k1; subst k1
            rw [e2] at k2; injection k2 with k2; subst k2
            have e := k3.eq_of_length (by simp)
            have := List.append_cancel_left e
            simp at this
            simp [this]
          · intro h; simp at h; subst h; exact in_of e1 e2 (List.prefix_refl _)
        · rw [← Bool.not_eq_true]
          intro h
          obtain ⟨u, v, k1, k2, k3⟩ := in_some h
          rw [hs] at k1; injection k1 with k1; subst k1
          rw [e1] at k2; injection k2 with k2; subst k2
          have := k3.length_le; simp at this; omega
      · cases hy
    · cases hx

theorem Parts.take {ps : List Bs} (h : Parts ps) (k : Nat) : Parts (ps.take k) :=
  ⟨by have := h.1; rw [List.length_take]; omega, fun p hp => h.2 p (List.mem_of_mem_take hp)⟩
theorem joinP_take_len {ps : List Bs} (h : Parts ps) (k : Nat) : (joinP (ps.take k)).length ≤ 100 := joinP_len (h.take k)

/-- One round of joining the parts again. -/
theorem splits_loop {ps : List Bs} (h : Parts ps) (k : Nat) (hk : k < ps.length) : join (joinP (ps.take k)) ps[k] = some (joinP (ps.take (k + 1))) := by
  unfold join
  rw [split_join (h.take k)]
  simp only
  have h6 := h.1
  rw [if_pos ⟨h.2 _ (List.getElem_mem hk), by rw [List.length_take]; omega⟩, List.take_succ_eq_append_getElem hk]

/-- How many slashes. -/
def slashes (l : Bs) : Nat := l.countP (· == 47)
theorem no_slash : ∀ (k : Nat) (p : Bs), pl k p = p.length → slashes p = 0
  | _, [], _ => rfl
  | 0, c :: r, h => by simp [pl] at h
  | k + 1, c :: r, h => by
    by_cases hc : okB c = true
    · have hne : (c == 47) = false := by
        cases hh : c == 47 with
        | false => rfl
        | true => rw [beq_iff_eq] at hh; subst hh; exact absurd hc (by decide)
      simp [pl, hc] at h
      have := no_slash k r h
      simp only [slashes, List.countP_cons, hne] at this ⊢
      simpa using this
    · simp [pl, hc] at h
theorem slashes_flat : ∀ (ps : List Bs), (∀ p ∈ ps, isPart p = true) → slashes (flat ps) = ps.length
  | [], _ => rfl
  | p :: r, h => by
    have h1 := no_slash 12 p ((isPart_iff p).1 (h p (by simp))).2
    have h2 := slashes_flat r (fun q hq => h q (by simp [hq]))
    rw [flat_cons]
    simp only [slashes, List.countP_cons, List.countP_append] at h1 h2 ⊢
    rw [h1, h2]; simp
theorem slashes_take_succ (l : Bs) (k : Nat) (h : k < l.length) : slashes (l.take (k + 1)) = slashes (l.take k) + if l[k] == 47 then 1 else 0 := by
  unfold slashes
  rw [List.take_succ_eq_append_getElem h, List.countP_append, List.countP_cons, List.countP_nil, Nat.zero_add]
theorem slashes_le (l : Bs) : slashes l ≤ l.length := List.countP_le_length

/-- Digits may stand in a part: which number it is decides nothing. -/
theorem okDig (x : Nat) (h : x ≤ 9) : okB (UInt8.ofNat (48 + x)) = true := by
  have : ∀ y : Fin 10, okB (UInt8.ofNat (48 + y.val)) = true := by decide
  exact this ⟨x, by omega⟩
theorem dig_ok (n : Nat) (h : n ≤ 9999) : ∀ c ∈ dig n, okB c = true := by
  intro c hc
  simp only [dig, List.mem_cons, List.not_mem_nil, or_false] at hc
  rcases hc with rfl | rfl | rfl | rfl <;> exact okDig _ (by omega)
theorem pl_all : ∀ (k : Nat) (d : Bs), (∀ c ∈ d, okB c = true) → pl k d = min k d.length
  | 0, d, _ => by simp [pl]
  | k + 1, [], _ => by simp [pl]
  | k + 1, c :: d, h => by
    have := pl_all k d (fun x hx => h x (by simp [hx]))
    simp [pl, h c (by simp), this]
theorem pl_app_ok : ∀ (k : Nat) (p d : Bs), (∀ c ∈ d, okB c = true) → pl k (p ++ d) = if pl k p = p.length then pl k p + min (k - p.length) d.length else pl k p
  | 0, [], d, h => by simp [pl]
  | 0, c :: p, d, h => by simp [pl]
  | k + 1, [], d, h => by rw [List.nil_append, pl_all _ _ h]; simp [pl]
  | k + 1, c :: p, d, h => by
    by_cases hc : okB c = true
    · have := pl_app_ok k p d h
      simp [pl, hc, this]
      split <;> omega
    · simp [pl, hc]
theorem isPart_dig (p : Bs) (a b : Nat) (ha : a ≤ 9999) (hb : b ≤ 9999) : isPart (p ++ dig a) = isPart (p ++ dig b) := by
  rw [Bool.eq_iff_iff, isPart_iff, isPart_iff, pl_app_ok _ _ _ (dig_ok a ha), pl_app_ok _ _ _ (dig_ok b hb)]
  simp [dig]

theorem less_app (p x y : Bs) : Op.bytesLess (p ++ x) (p ++ y) = Op.bytesLess x y := by
  induction p with
  | nil => rfl
  | cons c p ih =>
    simp only [List.cons_append, Op.bytesLess, ih]
    simp

theorem less_four (a b c d a' b' c' d' : UInt8) : Op.bytesLess [a, b, c, d] [a', b', c', d'] = decide (a < a' ∨ a = a' ∧ (b < b' ∨ b = b' ∧ (c < c' ∨ c = c' ∧ d < d'))) := by
  simp only [Op.bytesLess]
  rw [Bool.eq_iff_iff]
  simp

theorem ofNat_lt {x y : Nat} (hx : x < 256) (hy : y < 256) : (UInt8.ofNat x < UInt8.ofNat y) ↔ x < y := by
  rw [UInt8.lt_iff_toNat_lt]; simp [Nat.mod_eq_of_lt hx, Nat.mod_eq_of_lt hy]
theorem ofNat_eq {x y : Nat} (hx : x < 256) (hy : y < 256) : (UInt8.ofNat x = UInt8.ofNat y) ↔ x = y := by
  constructor
  · intro h; have := congrArg UInt8.toNat h; simpa [Nat.mod_eq_of_lt hx, Nat.mod_eq_of_lt hy] using this
  · rintro rfl; rfl

theorem dig_less (a b : Nat) (ha : a ≤ 9999) (hb : b ≤ 9999) : Op.bytesLess (dig a) (dig b) = decide (a < b) := by
  unfold dig
  rw [less_four]
  rw [Bool.eq_iff_iff]
  simp only [decide_eq_true_eq]
  rw [ofNat_lt (by omega) (by omega), ofNat_lt (by omega) (by omega), ofNat_lt (by omega) (by omega), ofNat_lt (by omega) (by omega),
    ofNat_eq (by omega) (by omega), ofNat_eq (by omega) (by omega), ofNat_eq (by omega) (by omega)]
  omega
theorem dig_eq (a b : Nat) (ha : a ≤ 9999) (hb : b ≤ 9999) : (dig a = dig b) ↔ a = b := by
  constructor
  · intro h
    unfold dig at h
    simp only [List.cons.injEq, and_true] at h
    rw [ofNat_eq (by omega) (by omega), ofNat_eq (by omega) (by omega), ofNat_eq (by omega) (by omega), ofNat_eq (by omega) (by omega)] at h
    omega
  · rintro rfl; rfl

/-- Two numbers behind one part: both are parts, or neither is. -/
theorem numbers (p : Bs) (a b : Nat) (ha : a ≤ 9999) (hb : b ≤ 9999) :
    (numbered p a = none ∧ numbered p b = none) ∨ ∃ x y, numbered p a = some x ∧ numbered p b = some y ∧ x.length = p.length + 4 ∧
      Op.bytesLess x y = decide (a < b) ∧ (x == y) = decide (a = b) ∧ x.take p.length = p := by
  unfold numbered
  by_cases h : isPart (p ++ dig a) = true
  · have h' : isPart (p ++ dig b) = true := by rw [← isPart_dig p a b ha hb]; exact h
    right
    refine ⟨p ++ dig a, p ++ dig b, ?_, ?_, by simp [dig], ?_, ?_, by simp⟩
    · rw [if_pos ⟨by omega, by omega, by simpa using h⟩]; simp
    · rw [if_pos ⟨by omega, by omega, by simpa using h'⟩]; simp
    · rw [less_app, dig_less a b ha hb]
    · rw [Bool.eq_iff_iff]; simp [dig_eq a b ha hb]
  · have h' : ¬ isPart (p ++ dig b) = true := by rw [← isPart_dig p a b ha hb]; exact h
    left
    refine ⟨?_, ?_⟩
    · rw [if_neg]; rintro ⟨_, _, k⟩; exact h (by simpa using k)
    · rw [if_neg]; rintro ⟨_, _, k⟩; exact h' (by simpa using k)

end Pm
end Go.Proofs.Ytajgjhkienhpjaa
