/- Plain lists: a path taken apart byte by byte, as a loop does it. -/
import Derived.Test.YtajgjhkienhpjaaPq
namespace Go.Proofs.Ytajgjhkienhpjaa
set_option maxRecDepth 20000
namespace Pm

/-- What is still to come of the loop: parts so far, the one at hand, the rest. -/
def sp (acc : List Bs) (cur : Bs) : Bs → Option (List Bs)
  | [] => if isPart cur = true ∧ acc.length < 6 then some (acc ++ [cur]) else none
  | c :: r => if c ≠ 47 then sp acc (cur ++ [c]) r else if isPart cur = true ∧ acc.length < 6 then sp (acc ++ [cur]) [] r else none

theorem cut_head {c : UInt8} {l : Bs} (h : c ≠ 47) : cut (c :: l) = ([], []) := by simp [cut, h]
theorem splitN_bad {n : Nat} {c : UInt8} {l : Bs} (h : c ≠ 47) : splitN n (c :: l) = none := by
  cases n with
  | zero => rfl
  | succ n => unfold splitN; rw [cut_head h]; simp

/-- A piece that is no part ends it. -/
theorem splitN_no (n : Nat) (cur rest : Bs) (hc : ∀ c ∈ cur, c ≠ 47) (hr : rest = [] ∨ ∃ t, rest = 47 :: t) (hp : isPart cur = false) : splitN n (47 :: (cur ++ rest)) = none := by
  cases n with
  | zero => rfl
  | succ n =>
    by_cases h0 : cur = []
    · subst h0
      have e : pl 12 rest = 0 := by
        rcases hr with rfl | ⟨t, rfl⟩
        · rfl
        · simp [pl, show okB 47 = false from by decide]
      unfold splitN
      simp [cut, e]
    · have hlt : pl 12 cur < cur.length := by
        have h1 := pl_len 12 cur
        rcases Nat.lt_or_eq_of_le h1 with h | h
        · exact h
        · rw [(isPart_iff cur).2 ⟨h0, h⟩] at hp; cases hp
      have e : pl 12 (cur ++ rest) = pl 12 cur := by
        have key : ∀ (k : Nat) (x : Bs), pl k x < x.length → pl k (x ++ rest) = pl k x := by
          intro k
          induction k with
          | zero => intro x _; cases x <;> simp [pl]
          | succ k ih =>
            intro x hx
            cases x with
            | nil => simp at hx
            | cons c x =>
              by_cases hok : okB c = true
              · simp [pl, hok] at hx ⊢
                exact ih x hx
              · simp [pl, hok]
        exact key 12 cur hlt
      obtain ⟨c, t, hd⟩ : ∃ c t, cur.drop (pl 12 cur) = c :: t := by
        cases hh : cur.drop (pl 12 cur) with
        | nil => have := congrArg List.length hh; simp at this; omega
        | cons c t => exact ⟨c, t, rfl⟩
      have hne : c ≠ 47 := hc c (List.mem_of_mem_drop (by rw [hd]; simp))
      have e2 : (cur ++ rest).drop (pl 12 cur) = c :: (t ++ rest) := by
        rw [List.drop_append_of_le_length (by omega), hd]; rfl
      unfold splitN
      have ec : cut (47 :: (cur ++ rest)) = ((cur ++ rest).take (pl 12 cur), c :: (t ++ rest)) := by
        show ((cur ++ rest).take (pl 12 (cur ++ rest)), (cur ++ rest).drop (pl 12 (cur ++ rest))) = _
        rw [e, e2]
      rw [ec]
      simp only
      rw [splitN_bad hne]
      simp

theorem splitN_part (n : Nat) (cur rest : Bs) (hr : rest = [] ∨ ∃ t, rest = 47 :: t) (hp : isPart cur = true) :
    splitN (n + 1) (47 :: (cur ++ rest)) = if rest = [] then some [cur] else (splitN n rest).map (cur :: ·) := by
  have hi := (isPart_iff cur).1 hp
  have e := pl_app 12 cur rest hi.2 hr
  have ec : cut (47 :: (cur ++ rest)) = (cur, rest) := by
    show ((cur ++ rest).take (pl 12 (cur ++ rest)), (cur ++ rest).drop (pl 12 (cur ++ rest))) = _
    rw [e]; simp
  conv => lhs; unfold splitN
  rw [ec]; simp only; rw [if_neg hi.1]

theorem sp_eq : ∀ (rest cur : Bs) (acc : List Bs), acc.length ≤ 6 → (∀ c ∈ cur, c ≠ 47) → sp acc cur rest = (splitN (6 - acc.length) (47 :: (cur ++ rest))).map (acc ++ ·)
  | [], cur, acc, ha, hc => by
    unfold sp
    cases hp : isPart cur with
    | false => rw [splitN_no _ cur [] hc (Or.inl rfl) hp]; simp
    | true =>
      by_cases h6 : acc.length < 6
      · rw [show 6 - acc.length = (5 - acc.length) + 1 by omega, splitN_part _ cur [] (Or.inl rfl) hp]; simp [h6]
      · rw [show 6 - acc.length = 0 by omega]; simp [h6, splitN]
  | c :: r, cur, acc, ha, hc => by
    unfold sp
    by_cases h47 : c ≠ 47
    · rw [if_pos h47, sp_eq r (cur ++ [c]) acc ha (fun x hx => by rw [List.mem_append] at hx; rcases hx with hx | hx; exact hc x hx; simp at hx; rw [hx]; exact h47)]
      simp
    · have h47' : c = 47 := Decidable.not_not.1 h47
      subst h47'
      rw [if_neg h47]
      cases hp : isPart cur with
      | false => rw [splitN_no _ cur (47 :: r) hc (Or.inr ⟨r, rfl⟩) hp]; simp
      | true =>
        by_cases h6 : acc.length < 6
        · rw [if_pos ⟨rfl, h6⟩, sp_eq r [] (acc ++ [cur]) (by simp; omega) (by simp),
            show 6 - acc.length = (5 - acc.length) + 1 by omega, splitN_part _ cur (47 :: r) (Or.inr ⟨r, rfl⟩) hp]
          simp only [List.nil_append, List.length_append, List.length_cons, List.length_nil]
          rw [show 6 - (acc.length + (0 + 1)) = 5 - acc.length by omega, if_neg (by simp)]
          simp [Function.comp_def]
        · rw [if_neg (fun h => h6 h.2), show 6 - acc.length = 0 by omega]; simp [splitN]

/-- The whole loop. -/
theorem sp_split (r : Bs) (h : r ≠ []) : split (47 :: r) = sp [] [] r := by
  rw [sp_eq r [] [] (by simp) (by simp)]
  unfold split
  rw [if_neg (by simpa using h)]
  simp
theorem split_other {c : UInt8} {r : Bs} (h : c ≠ 47) : split (c :: r) = none := by
  unfold split; rw [if_neg (by rintro ⟨⟩; exact h rfl), splitN_bad h]
theorem split_nil : split [] = none := by decide

theorem isPart_all (l : Bs) : isPart l = (decide (1 ≤ l.length ∧ l.length ≤ 12) && l.all okB) := by
  rw [Bool.eq_iff_iff, isPart_iff]
  simp only [Bool.and_eq_true, decide_eq_true_eq, List.all_eq_true]
  constructor
  · rintro ⟨h0, h1⟩
    have hp := isPart_len ((isPart_iff l).2 ⟨h0, h1⟩)
    refine ⟨hp, ?_⟩
    have key : ∀ (k : Nat) (x : Bs), pl k x = x.length → ∀ c ∈ x, okB c = true := by
      intro k
      induction k with
      | zero => intro x hx c hc; cases x with
        | nil => cases hc
        | cons a x => simp [pl] at hx
      | succ k ih =>
        intro x hx c hc
        cases x with
        | nil => cases hc
        | cons a x =>
          by_cases ha : okB a = true
          · simp [pl, ha] at hx
            rcases List.mem_cons.1 hc with rfl | hc
            · exact ha
            · exact ih x hx c hc
          · simp [pl, ha] at hx
    exact key 12 l h1
  · rintro ⟨⟨h1, h2⟩, h3⟩
    refine ⟨by rintro rfl; simp at h1, ?_⟩
    rw [pl_all 12 l h3]; omega

end Pm
end Go.Proofs.Ytajgjhkienhpjaa
