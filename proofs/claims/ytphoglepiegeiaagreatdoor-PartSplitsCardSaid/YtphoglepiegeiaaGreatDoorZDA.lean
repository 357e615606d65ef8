/- A text of this proof. -/
import Derived.Laws.Strings
import Derived.Laws.Strings2
import GoSem.Op.String
set_option linter.unusedSimpArgs false
set_option linter.unusedVariables false
namespace Go.Proofs.YtphoglepiegeiaaGreatDoor
set_option maxRecDepth 20000
namespace Pm
abbrev Bs := List UInt8
def B (l : Bs) : ByteArray := ⟨l.toArray⟩
theorem B_size (l : Bs) : (B l).size = l.length := by unfold B; rfl
theorem B_toList (l : Bs) : (B l).toList = l := by unfold B; exact ByteArray.toList_mk l
theorem B_get (l : Bs) (i : Nat) (h : i < (B l).size) : (B l)[i] = l[i]'(by rw [B_size] at h; exact h) := by
 unfold B; rfl
theorem B_of (s : ByteArray) : s = B s.data.toList := by unfold B; simp
theorem B_extract (l : Bs) (a b : Nat) : (B l).extract a b = B ((l.drop a).take (b - a)) := ByteArray.extract_mk l a b
theorem B_app (a b : Bs) : B a ++ B b = B (a ++ b) := by
 apply ByteArray.ext; unfold B; simp
theorem lit_app (a b : Bs) : ByteArray.mk a.toArray ++ B b = B (a ++ b) := B_app a b
theorem app_lit (a b : Bs) : B a ++ ByteArray.mk b.toArray = B (a ++ b) := B_app a b
theorem lit_extract (l : Bs) (a b : Nat) : (ByteArray.mk l.toArray).extract a b = B ((l.drop a).take (b - a)) := B_extract l a b
def okN (n : Nat) : Bool := decide (97 ≤ n ∧ n ≤ 122 ∨ 48 ≤ n ∧ n ≤ 57 ∨ n = 45)
def okB (c : UInt8) : Bool := okN c.toNat
def pl : Nat → Bs → Nat
 | 0, _ => 0
 | _ + 1, [] => 0
 | k + 1, c :: r => if okB c then pl k r + 1 else 0
theorem pl_le : ∀ (k : Nat) (l : Bs), pl k l ≤ k
 | 0, _ => Nat.le_refl _
 | _ + 1, [] => Nat.zero_le _
 | k + 1, c :: r => by unfold pl; split <;> have := pl_le k r <;> omega
theorem pl_len : ∀ (k : Nat) (l : Bs), pl k l ≤ l.length
 | 0, _ => Nat.zero_le _
 | _ + 1, [] => Nat.zero_le _
 | k + 1, c :: r => by unfold pl; split <;> have := pl_len k r <;> simp <;> omega
theorem pl_split : ∀ (n k : Nat) (l : Bs), n ≤ k → n ≤ l.length → (∀ i (h : i < l.length), i < n → okB l[i] = true) → pl k l = n + pl (k - n) (l.drop n)
 | 0, k, l, _, _, _ => by simp
 | n + 1, 0, l, h, _, _ => by omega
 | n + 1, k + 1, [], _, h, _ => by simp at h
 | n + 1, k + 1, c :: r, h1, h2, h3 => by
  have h0 := h3 0 (by simp) (by omega)
  simp at h0
  have := pl_split n k r (by omega) (by simpa using h2) (fun i hi hn => by have := h3 (i + 1) (by simp; omega) (by omega); simpa using this)
  rw [show pl (k + 1) (c :: r) = pl k r + 1 from by simp [pl, h0], this, Nat.add_sub_add_right, List.drop_succ_cons]; omega
theorem pl_stop (n : Nat) (l : Bs) (hn : n ≤ 12) (hl : n ≤ l.length) (h : ∀ i (h : i < l.length), i < n → okB l[i] = true)
  (hs : n = 12 ∨ n = l.length ∨ ∃ h : n < l.length, okB l[n] = false) : pl 12 l = n := by
 rw [pl_split n 12 l hn hl h]
 rcases hs with rfl | rfl | ⟨h1, h2⟩
 ·simp [pl]
 ·rw [List.drop_of_length_le (Nat.le_refl _)]
  cases hh : 12 - l.length <;> simp [pl]
 rw [List.drop_eq_getElem_cons h1]
 cases hh : 12 - n <;> simp [pl, h2]
def isPart (l : Bs) : Bool := !l.isEmpty && pl 12 l == l.length
def cut (l : Bs) : Bs × Bs :=
 match l with
 | [] => ([], [])
 | c :: r => if c = 47 then (r.take (pl 12 r), r.drop (pl 12 r)) else ([], [])
def splitN : Nat → Bs → Option (List Bs)
 | 0, _ => none
 | n + 1, s => if (cut s).1 = [] then none else if (cut s).2 = [] then some [(cut s).1] else (splitN n (cut s).2).map ((cut s).1 :: ·)
def split (l : Bs) : Option (List Bs) := if l = [47] then some [] else splitN 6 l
def flat (ps : List Bs) : Bs := (ps.map (47 :: ·)).flatten
def jn : List Bs → Bs
 | [] => []
 | p :: r => p ++ flat r
def joinP (ps : List Bs) : Bs := 47 :: jn ps
def lens (ps : List Bs) : Nat := (ps.map List.length).sum
theorem flat_nil : flat [] = [] := rfl
theorem flat_cons (p : Bs) (r : List Bs) : flat (p :: r) = 47 :: (p ++ flat r) := by simp [flat]
theorem flat_take_succ (r : List Bs) (k : Nat) (h : k < r.length) : flat (r.take (k + 1)) = flat (r.take k) ++ [47] ++ r[k] := by
 rw [List.take_succ_eq_append_getElem h]; unfold flat; rw [List.map_append, List.flatten_append]; simp
theorem flat_len (r : List Bs) : (flat r).length = r.length + lens r := by
 induction r with
 | nil => rfl
 | cons p r ih => rw [flat_cons]; simp [lens] at ih ⊢; omega
theorem lens_take_succ (r : List Bs) (k : Nat) (h : k < r.length) : lens (r.take (k + 1)) = lens (r.take k) + r[k].length := by
 rw [List.take_succ_eq_append_getElem h]; unfold lens; rw [List.map_append, List.sum_append]; simp
theorem lens_take_le : ∀ (r : List Bs) (k : Nat), lens (r.take k) ≤ lens r
 | [], k => by simp [lens]
 | p :: r, 0 => by simp [lens]
 | p :: r, k + 1 => by have := lens_take_le r k; simp [lens] at this ⊢; omega
theorem joinP_cons (p : Bs) (r : List Bs) : joinP (p :: r) = flat (p :: r) := by rw [flat_cons]; rfl
end Pm
namespace Pm
theorem pl_take : ∀ (k : Nat) (l : Bs), pl k (l.take (pl k l)) = pl k l
 | 0, l => by simp [pl]
 | k + 1, [] => by simp [pl]
 | k + 1, c :: r => by
  by_cases h : okB c = true
  ·simp [pl, h, pl_take k r]
  simp [pl, h]
theorem pl_app : ∀ (k : Nat) (p r : Bs), pl k p = p.length → (r = [] ∨ ∃ t, r = 47 :: t) → pl k (p ++ r) = p.length
 | 0, [], r, _, _ => by simp [pl]
 | 0, c :: p, r, h, _ => by simp [pl] at h
 | k + 1, [], r, _, h => by
  rcases h with rfl | ⟨t, rfl⟩
  ·simp [pl]
  simp [pl, show okB 47 = false from by decide]
 | k + 1, c :: p, r, h, hr => by
  by_cases hc : okB c = true
  ·simp [pl, hc] at h ⊢
   exact pl_app k p r h hr
  simp [pl, hc] at h
theorem isPart_iff (p : Bs) : isPart p = true ↔ p ≠ [] ∧ pl 12 p = p.length := by
 unfold isPart; cases p <;> simp
theorem isPart_len {p : Bs} (h : isPart p = true) : 1 ≤ p.length ∧ p.length ≤ 12 := by
 rw [isPart_iff] at h
 have := pl_le 12 p
 cases p with
 | nil => exact absurd rfl h.1
 | cons c r => simp at h ⊢; omega
theorem flat_head (r : List Bs) : flat r = [] ∨ ∃ t, flat r = 47 :: t := by
 cases r with
 | nil => exact Or.inl rfl
 | cons p r => exact Or.inr ⟨_, flat_cons p r⟩
theorem flat_eq_nil {r : List Bs} (h : flat r = []) : r = [] := by
 cases r with
 | nil => rfl
 | cons p r => rw [flat_cons] at h; cases h
theorem cut_flat (p : Bs) (r : List Bs) (h : isPart p = true) : cut (flat (p :: r)) = (p, flat r) := by
 rw [isPart_iff] at h
 rw [flat_cons]
 have e := pl_app 12 p (flat r) h.2 (flat_head r)
 simp [cut, e]
theorem cut_made {l : Bs} (h : (cut l).1 ≠ []) : isPart (cut l).1 = true ∧ l = 47 :: ((cut l).1 ++ (cut l).2) := by
 rw [isPart_iff]
 cases l with
 | nil => exact absurd rfl h
 | cons c r => ?_
 by_cases hc : c = 47
 ·subst hc
  simp [cut] at h ⊢
  refine ⟨h, ?_⟩
  rw [pl_take]
  have := pl_len 12 r
  omega
 simp [cut, hc] at h
def Parts (ps : List Bs) : Prop := ps.length ≤ 6 ∧ ∀ p ∈ ps, isPart p = true
theorem splitN_made : ∀ (n : Nat) (l : Bs) (ps : List Bs), splitN n l = some ps → ps ≠ [] ∧ ps.length ≤ n ∧ (∀ p ∈ ps, isPart p = true) ∧ flat ps = l
 | 0, l, ps, h => by simp [splitN] at h
 | n + 1, l, ps, h => by
  unfold splitN at h
  by_cases h1 : (cut l).1 = []
  ·simp [h1] at h
  have hm := cut_made h1
  rw [if_neg h1] at h
  by_cases h2 : (cut l).2 = []
  ·rw [if_pos h2] at h
   injection h with h; subst h
   refine ⟨by simp, by simp, ?_, ?_⟩
   ·intro p hp; simp at hp; subst hp; exact hm.1
   rw [flat_cons, flat_nil]; rw [h2] at hm; exact hm.2.symm
  rw [if_neg h2] at h
  cases hr : splitN n (cut l).2 with
  | none => simp [hr] at h
  | some qs => ?_
  simp [hr] at h; subst h
  have ih := splitN_made n _ _ hr
  refine ⟨by simp, by simpa using ih.2.1, ?_, ?_⟩
  ·intro p hp; simp at hp
   rcases hp with rfl | hp
   ·exact hm.1
   exact ih.2.2.1 p hp
  rw [flat_cons, ih.2.2.2]; exact hm.2.symm
theorem splitN_flat : ∀ (n : Nat) (ps : List Bs), ps ≠ [] → ps.length ≤ n → (∀ p ∈ ps, isPart p = true) → splitN n (flat ps) = some ps
 | _, [], h, _, _ => absurd rfl h
 | 0, p :: r, _, h, _ => by simp at h
 | n + 1, p :: r, _, hl, hp => by
  have hc := cut_flat p r (hp p (by simp))
  have hp0 := (isPart_iff p).1 (hp p (by simp))
  unfold splitN
  rw [hc]
  simp only
  rw [if_neg hp0.1]
  by_cases hr : r = []
  ·subst hr; rw [if_pos flat_nil]
  rw [if_neg (fun h => hr (flat_eq_nil h)), splitN_flat n r hr (by simpa using hl) (fun q hq => hp q (by simp [hq]))]
  rfl
theorem split_iff (l : Bs) (ps : List Bs) : split l = some ps ↔ Parts ps ∧ joinP ps = l := by
 unfold split Parts
 by_cases hl : l = [47]
 ·subst hl
  rw [if_pos rfl]
  constructor
  ·intro h; injection h with h; subst h; exact ⟨⟨by simp, by simp⟩, rfl⟩
  rintro ⟨⟨_, hp⟩, hj⟩
  cases ps with
  | nil => rfl
  | cons p r => ?_
  have := (isPart_len (hp p (by simp))).1
  rw [joinP_cons, flat_cons] at hj
  simp at hj
  rw [hj.1] at this; simp at this
 rw [if_neg hl]
 constructor
 ·intro h
  have := splitN_made 6 l ps h
  refine ⟨⟨this.2.1, this.2.2.1⟩, ?_⟩
  cases ps with
  | nil => exact absurd rfl this.1
  | cons p r => rw [joinP_cons]; exact this.2.2.2
 rintro ⟨⟨hn, hp⟩, rfl⟩
 cases ps with
 | nil => exact absurd rfl hl
 | cons p r => rw [joinP_cons]; exact splitN_flat 6 _ (by simp) hn hp
theorem split_join {ps : List Bs} (h : Parts ps) : split (joinP ps) = some ps := (split_iff _ _).2 ⟨h, rfl⟩
theorem Parts.lens {ps : List Bs} (h : Parts ps) : Pm.lens ps ≤ 72 := by
 obtain ⟨hn, hp⟩ := h
 have key : ∀ (qs : List Bs), (∀ p ∈ qs, isPart p = true) → Pm.lens qs ≤ 12 * qs.length := by
  intro qs
  induction qs with
  | nil => intro _; simp [Pm.lens]
  | cons q r ih =>
   intro h
   have h1 := (isPart_len (h q (by simp))).2
   have h2 := ih (fun p hp => h p (by simp [hp]))
   simp [Pm.lens] at h2 ⊢; omega
 have := key ps hp
 omega
def parent (l : Bs) : Option Bs := match split l with
 | some (p :: r) => some (joinP (p :: r).dropLast)
 | _ => none
def last (l : Bs) : Bs := match split l with
 | some (p :: r) => (p :: r).getLast (by simp)
 | _ => []
def join (l q : Bs) : Option Bs := match split l with
 | some ps => if isPart q = true ∧ ps.length < 6 then some (joinP (ps ++ [q])) else none
 | none => none
def inB (l q : Bs) : Bool := match split l, split q with
 | some a, some b => b.isPrefixOf a
 | _, _ => false
def dig (n : Nat) : Bs := [UInt8.ofNat (48 + n / 1000), UInt8.ofNat (48 + n / 100 % 10), UInt8.ofNat (48 + n / 10 % 10), UInt8.ofNat (48 + n % 10)]
def numbered (p : Bs) (n : Int) : Option Bs := if 0 ≤ n ∧ n ≤ 9999 ∧ isPart (p ++ dig n.toNat) = true then some (p ++ dig n.toNat) else none
end Pm
namespace Pm
theorem Parts.init {p : Bs} {r : List Bs} (h : Parts (p :: r)) : Parts (p :: r).dropLast := by
 obtain ⟨h1, h2⟩ := h
 refine ⟨by simp at h1 ⊢; omega, fun q hq => h2 q (List.dropLast_subset _ hq)⟩
theorem Parts.snoc {ps : List Bs} {q : Bs} (h : Parts ps) (hn : ps.length < 6) (hq : isPart q = true) : Parts (ps ++ [q]) := by
 obtain ⟨h1, h2⟩ := h
 refine ⟨by simp; omega, fun x hx => ?_⟩
 rw [List.mem_append] at hx
 rcases hx with hx | hx
 ·exact h2 x hx
 simp at hx; subst hx; exact hq
theorem joinP_len {ps : List Bs} (h : Parts ps) : (joinP ps).length ≤ 100 := by
 have h1 := h.1
 have h2 := h.lens
 cases ps with
 | nil => simp [joinP, jn]
 | cons p r => rw [joinP_cons, flat_len]; omega
theorem parent_some {l a : Bs} (h : parent l = some a) :
  ∃ ps, split l = some ps ∧ join a (last l) = some l ∧ a.length ≤ 100 ∧ (last l).length ≤ 100 ∧ l.length ≤ 100 ∧ inB l a = true ∧ inB a l = false := by
 unfold parent at h
 split at h
 ·rename_i p r hs
  injection h with h; subst h
  have hP := ((split_iff _ _).1 hs)
  have hI := hP.1.init
  have hl : last l = (p :: r).getLast (by simp) := by unfold last; rw [hs]
  have hq : isPart ((p :: r).getLast (by simp)) = true := hP.1.2 _ (List.getLast_mem _)
  have hlt : (p :: r).dropLast.length < 6 := by have := hP.1.1; simp at this ⊢; omega
  refine ⟨p :: r, hs, ?_, joinP_len hI, ?_, ?_, ?_, ?_⟩
  ·rw [hl]; unfold join
   rw [split_join hI]
   simp only
   rw [if_pos ⟨hq, hlt⟩, List.dropLast_concat_getLast, hP.2]
  ·rw [hl]; have := (isPart_len hq).2; omega
  ·rw [← hP.2]; exact joinP_len hP.1
  ·unfold inB; rw [hs, split_join hI]
   simp only [List.isPrefixOf_iff_prefix]
   exact List.dropLast_prefix _
  unfold inB; rw [hs, split_join hI]
  simp only
  rw [← Bool.not_eq_true, List.isPrefixOf_iff_prefix]
  intro hh; have := hh.length_le; simp at this; omega
 cases h
theorem parent_none {l : Bs} (h : parent l = none) : (split l).isSome = (l == [47]) ∧ last l = [] := by
 unfold parent at h
 split at h
 ·cases h
 rename_i hx
 cases hs : split l with
 | none =>
  refine ⟨?_, by unfold last; rw [hs]⟩
  have : l ≠ [47] := by rintro rfl; cases hs
  simpa using this
 | some ps => ?_
 cases ps with
 | nil =>
  have := ((split_iff _ _).1 hs).2
  refine ⟨?_, by unfold last; rw [hs]⟩
  rw [← this]; rfl
 | cons p r => exact absurd hs (hx p r)
theorem join_some {l q c : Bs} (h : join l q = some c) : ∃ cs, split c = some cs ∧ parent c = some l ∧ last c = q ∧ c.length ≤ 100 := by
 unfold join at h
 split at h
 ·rename_i ps hs
  split at h
  ·rename_i hc
   injection h with h; subst h
   have hP := (split_iff _ _).1 hs
   have hS := hP.1.snoc hc.2 hc.1
   have h1 := split_join hS
   refine ⟨_, h1, ?_, ?_, joinP_len hS⟩
   ·unfold parent; rw [h1]
    cases hh : ps ++ [q] with
    | nil => simp at hh
    | cons a b => simp only; rw [← hh]; simp [hP.2]
   unfold last; rw [h1]
   cases hh : ps ++ [q] with
   | nil => simp at hh
   | cons a b => simp only [← hh]; simp
  cases h
 cases h
theorem in_refl {p : Bs} {ps : List Bs} (h : split p = some ps) : inB p p = true := by
 unfold inB; rw [h]; simp only [List.isPrefixOf_iff_prefix]; exact List.prefix_refl _
theorem Parts.take {ps : List Bs} (h : Parts ps) (k : Nat) : Parts (ps.take k) :=
 ⟨by have := h.1; rw [List.length_take]; omega, fun p hp => h.2 p (List.mem_of_mem_take hp)⟩
theorem pl_all : ∀ (k : Nat) (d : Bs), (∀ c ∈ d, okB c = true) → pl k d = min k d.length
 | 0, d, _ => by simp [pl]
 | k + 1, [], _ => by simp [pl]
 | k + 1, c :: d, h => by
  have := pl_all k d (fun x hx => h x (by simp [hx]))
  simp [pl, h c (by simp), this]
end Pm
namespace Pm
structure Nd where
 path : Bs
 data : Bs
 ver : Int
 turn : Int
 own : Int
deriving DecidableEq
structure Opn where
 kind : Int
 path : Bs
 data : Bs
 ver : Int
 own : Int
 turns : Bool
deriving DecidableEq
structure Res where
 err : Int
 path : Bs
 data : Bs
 ver : Int
 names : List Bs
deriving DecidableEq
def Res.bad (e : Int) : Res := ⟨e, [], [], 0, []⟩
abbrev lt (a b : Bs) : Bool := Op.bytesLess a b
theorem lt_nil_right (a : Bs) : lt a [] = false := by cases a <;> rfl
theorem lt_cons (a b : UInt8) (x y : Bs) : lt (a :: x) (b :: y) = (decide (a < b) || (a == b && lt x y)) := rfl
theorem lt_irrefl : ∀ a : Bs, lt a a = false
 | [] => rfl
 | c :: a => by rw [lt_cons, lt_irrefl a]; simp
theorem lt_trans : ∀ {a b c : Bs}, lt a b = true → lt b c = true → lt a c = true
 | _, _, [], _, h => by rw [lt_nil_right] at h; cases h
 | _, [], _ :: _, h, _ => by rw [lt_nil_right] at h; cases h
 | [], _ :: _, _ :: _, _, _ => rfl
 | x :: a, y :: b, z :: c, h, k => by
  rw [lt_cons] at h k ⊢
  simp only [Bool.or_eq_true, Bool.and_eq_true, decide_eq_true_eq, beq_iff_eq] at h k ⊢
  rcases h with h | ⟨rfl, h⟩ <;> rcases k with k | ⟨rfl, k⟩
  ·exact .inl (UInt8.lt_trans h k)
  ·exact .inl h
  ·exact .inl k
  exact .inr ⟨rfl, lt_trans h k⟩
theorem lt_total : ∀ (a b : Bs), lt a b = false → lt b a = false → a = b
 | [], [], _, _ => rfl
 | [], _ :: _, h, _ => by cases h
 | _ :: _, [], _, h => by cases h
 | x :: a, y :: b, h, k => by
  rw [lt_cons] at h k
  simp only [Bool.or_eq_false_iff, Bool.and_eq_false_iff, decide_eq_false_iff_not, beq_eq_false_iff_ne] at h k
  have e : x = y := UInt8.le_antisymm (UInt8.not_lt.1 k.1) (UInt8.not_lt.1 h.1)
  subst e
  have h2 := h.2.resolve_left (fun f => f rfl)
  have k2 := k.2.resolve_left (fun f => f rfl)
  rw [lt_total a b h2 k2]
theorem lt_asymm {a b : Bs} (h : lt a b = true) : lt b a = false := by
 cases k : lt b a with
 | false => rfl
 | true => have := lt_trans h k; rw [lt_irrefl] at this; cases this
theorem lt_ne {a b : Bs} (h : lt a b = true) : a ≠ b := by
 rintro rfl; rw [lt_irrefl] at h; cases h
theorem lt_of {a b : Bs} (h : lt a b = false) (k : a ≠ b) : lt b a = true := by
 cases h2 : lt b a with
 | true => rfl
 | false => exact absurd (lt_total a b h h2) k
theorem lt_of_le_lt {a b c : Bs} (h : lt b a = false) (k : lt b c = true) : lt a c = true := by
 by_cases e : b = a
 ·subst e; exact k
 exact lt_trans (lt_of h e) k
theorem lt_le_trans {a b c : Bs} (h : lt a b = true) (k : lt c b = false) : lt a c = true := by
 by_cases e : c = b
 ·subst e; exact h
 exact lt_trans h (lt_of k e)
theorem lt_prefix : ∀ (a : Bs) (c : UInt8) (b : Bs), lt a (a ++ c :: b) = true
 | [], _, _ => rfl
 | x :: a, c, b => by rw [List.cons_append, lt_cons, lt_prefix a c b]; simp
theorem not_le_lt {a b : Bs} (h : lt a b = false) : a = b ∨ lt b a = true := by
 by_cases e : a = b
 ·exact .inl e
 exact .inr (lt_of h e)
def find (l : List Nd) (p : Bs) : Option Nd := l.find? (fun n => n.path == p)
def fitsB (n : Nd) : Bool := decide (n.data.length ≤ 256 ∧ 0 ≤ n.ver ∧ n.ver ≤ 281474976710656 ∧ 0 ≤ n.turn ∧ n.turn ≤ 10000 ∧ 0 ≤ n.own ∧ n.own ≤ 1099511627776 ∧ (n.own = 0 ∨ n.turn = 0))
def free (l : List Nd) (u : Bs) : Bool := match find l u with
 | some x => x.own == 0
 | none => false
def lies (l : List Nd) (n : Nd) : Bool := match parent n.path with
 | some u => free l u
 | none => false
def asc : List Nd → Prop
 | [] => True
 | [_] => True
 | a :: b :: r => lt a.path b.path = true ∧ asc (b :: r)
structure Tree (l : List Nd) : Prop where
 pos : 0 < l.length
 most : l.length ≤ 512
 root : (l[0]'pos).path = [47]
 free : (l[0]'pos).own = 0
 fit : ∀ i (h : i < l.length), fitsB l[i] = true
 up : ∀ i (h : i + 1 < l.length), lt l[i].path l[i+1].path = true
 lie : ∀ i (h : i < l.length), 0 < i → lies l l[i] = true
open Classical in
noncomputable def right (l : List Nd) : Bool := decide (Tree l)
theorem right_iff (l : List Nd) : right l = true ↔ Tree l := by unfold right; simp
theorem right_false {l : List Nd} (h : ¬ Tree l) : right l = false := by unfold right; simp [h]
theorem right_true {l : List Nd} (h : Tree l) : right l = true := by unfold right; simp [h]
def Asc (l : List Nd) : Prop := ∀ i j (hi : i < l.length) (hj : j < l.length), i < j → lt l[i].path l[j].path = true
theorem asc_of {l : List Nd} (h : ∀ i (h : i + 1 < l.length), lt l[i].path l[i+1].path = true) : Asc l := by
 intro i j hi hj hij
 obtain ⟨d, rfl⟩ : ∃ d, j = i + 1 + d := ⟨j - (i + 1), by omega⟩
 clear hij
 induction d with
 | zero => exact h i hj
 | succ d ih => exact lt_trans (ih (by omega)) (h (i + 1 + d) (by omega))
theorem Tree.asc {l : List Nd} (h : Tree l) : Asc l := asc_of h.up
theorem Asc.step {l : List Nd} (h : Asc l) : ∀ i (hi : i + 1 < l.length), lt l[i].path l[i+1].path = true := fun i hi => h i (i + 1) (by omega) hi (by omega)
theorem Asc.inj {l : List Nd} (h : Asc l) {i j : Nat} (hi : i < l.length) (hj : j < l.length) (e : l[i].path = l[j].path) : i = j := by
 rcases Nat.lt_trichotomy i j with k | k | k
 ·exact absurd e (lt_ne (h i j hi hj k))
 ·exact k
 exact absurd e.symm (lt_ne (h j i hj hi k))
theorem asc_iff {l : List Nd} : Asc l ↔ l.Pairwise (fun a b => lt a.path b.path = true) := by
 rw [List.pairwise_iff_getElem]; rfl
theorem Asc.filter {l : List Nd} (h : Asc l) (p : Nd → Bool) : Asc (l.filter p) := asc_iff.2 ((asc_iff.1 h).filter p)
theorem Asc.tail {a : Nd} {l : List Nd} (h : Asc (a :: l)) : Asc l := by
 rw [asc_iff] at h ⊢; exact (List.pairwise_cons.1 h).2
theorem Asc.head {a : Nd} {l : List Nd} (h : Asc (a :: l)) : ∀ b ∈ l, lt a.path b.path = true := by
 rw [asc_iff] at h; exact (List.pairwise_cons.1 h).1
theorem find_mem {l : List Nd} {p : Bs} {x : Nd} (h : find l p = some x) : x ∈ l ∧ x.path = p := by
 unfold find at h
 exact ⟨List.mem_of_find?_eq_some h, by simpa using List.find?_some h⟩
theorem find_none {l : List Nd} {p : Bs} : find l p = none ↔ ∀ x ∈ l, x.path ≠ p := by
 unfold find; rw [List.find?_eq_none]; simp
theorem find_of {l : List Nd} (ha : Asc l) {x : Nd} (h : x ∈ l) : find l x.path = some x := by
 induction l with
 | nil => simp at h
 | cons a l ih =>
  rw [List.mem_cons] at h
  unfold find
  rw [List.find?_cons]
  rcases h with rfl | h
  ·simp
  rw [show (a.path == x.path) = false from by simpa using lt_ne (ha.head x h)]
  exact ih ha.tail h
theorem find_iff {l : List Nd} (ha : Asc l) {p : Bs} {x : Nd} : find l p = some x ↔ x ∈ l ∧ x.path = p :=
 ⟨find_mem, fun ⟨h, e⟩ => e ▸ find_of ha h⟩
theorem parent_lt {l u : Bs} (h : parent l = some u) : lt u l = true := by
 unfold parent at h
 split at h
 ·rename_i p r hs
  injection h with h
  have hP := (split_iff _ _).1 hs
  have hne : (p :: r) ≠ [] := by simp
  have e := List.dropLast_concat_getLast hne
  generalize hd : (p :: r).dropLast = d at e h
  generalize (p :: r).getLast hne = q at e
  rw [← h, ← hP.2, ← e]
  cases d with
  | nil =>
   rw [List.nil_append, joinP_cons, flat_cons]
   have : isPart q = true := hP.1.2 q (by rw [← e]; simp)
   obtain ⟨k, _⟩ := isPart_len this
   cases q with
   | nil => simp at k
   | cons c q => rfl
  | cons a d => ?_
  rw [joinP_cons, List.cons_append, joinP_cons, ← List.cons_append]
  have : flat (a :: d ++ [q]) = flat (a :: d) ++ 47 :: (q ++ []) := by unfold flat; rw [List.map_append, List.flatten_append]; simp
  rw [this]; exact lt_prefix _ _ _
 cases h
theorem parent_root : parent [47] = none := rfl
end Pm
namespace Pm
def place (l : List Nd) (p : Bs) : Nat := l.countP (fun n => lt n.path p)
theorem place_le (l : List Nd) (p : Bs) : place l p ≤ l.length := List.countP_le_length
theorem place_of {l : List Nd} {p : Bs} {k : Nat} (hk : k ≤ l.length) (h1 : ∀ i (h : i < l.length), i < k → lt l[i].path p = true)
  (h2 : ∀ i (h : i < l.length), k ≤ i → lt l[i].path p = false) : place l p = k := by
 unfold place
 induction l generalizing k with
 | nil => simp at hk; simp [hk]
 | cons a l ih =>
  cases k with
  | zero =>
   rw [List.countP_eq_zero]
   intro x hx
   obtain ⟨i, hi, rfl⟩ := List.getElem_of_mem hx
   rw [h2 i hi (Nat.zero_le _)]; simp
  | succ k => ?_
  rw [List.countP_cons, show lt a.path p = true from h1 0 (by simp) (by omega)]
  rw [ih (k := k) (by simpa using hk) (fun i h hik => by have := h1 (i + 1) (by simpa using h) (by omega); rwa [List.getElem_cons_succ] at this) (fun i h hik => by have := h2 (i + 1) (by simpa using h) (by omega); rwa [List.getElem_cons_succ] at this)]
  simp
theorem place_cons (a : Nd) (l : List Nd) (p : Bs) : place (a :: l) p = place l p + if lt a.path p = true then 1 else 0 := by
 unfold place; rw [List.countP_cons]
theorem place_low {l : List Nd} (ha : Asc l) (p : Bs) : ∀ i (h : i < l.length), (lt l[i].path p = true ↔ i < place l p) := by
 induction l with
 | nil => intro i h; simp at h
 | cons a l ih =>
  intro i h
  rw [place_cons]
  by_cases hb : lt a.path p = true
  ·rw [if_pos hb]
   cases i with
   | zero => simpa using hb
   | succ i => simpa using ih ha.tail i (by simpa using h)
  rw [if_neg hb]
  have z : place l p = 0 := by
   unfold place; rw [List.countP_eq_zero]
   intro x hx
   have := ha.head x hx
   intro hc; exact hb (lt_trans this hc)
  rw [z]
  cases i with
  | zero => simpa using hb
  | succ i => ?_
  have := ha.head (l[i]'(by simpa using h)) (List.getElem_mem _)
  simp only [List.getElem_cons_succ]
  constructor
  ·intro hc; exact absurd (lt_trans this hc) hb
  intro hc; omega
theorem place_at {l : List Nd} (ha : Asc l) {i : Nat} (h : i < l.length) : place l l[i].path = i := by
 have k := place_low ha l[i].path
 have h1 := k i h
 rw [lt_irrefl] at h1
 simp at h1
 rcases Nat.lt_or_ge i (place l l[i].path) with h2 | h2
 ·omega
 rcases Nat.lt_or_ge (place l l[i].path) i with h3 | h3
 ·exact absurd ((k _ (Nat.lt_trans h3 h)).1 (ha _ _ (Nat.lt_trans h3 h) h h3)) (Nat.lt_irrefl _)
 omega
theorem find_at {l : List Nd} (ha : Asc l) {p : Bs} {x : Nd} (h : find l p = some x) : ∃ hk : place l p < l.length, l[place l p] = x := by
 obtain ⟨hm, rfl⟩ := find_mem h
 obtain ⟨i, hi, rfl⟩ := List.getElem_of_mem hm
 have e := place_at ha hi
 exact ⟨by rw [e]; exact hi, by simp only [e]⟩
theorem find_place {l : List Nd} (ha : Asc l) (p : Bs) : find l p = if h : place l p < l.length then (if (l[place l p]).path = p then some l[place l p] else none) else none := by
 cases hf : find l p with
 | some x =>
  obtain ⟨hk, e⟩ := find_at ha hf
  rw [dif_pos hk, e, if_pos (find_mem hf).2]
 | none => ?_
 split
 ·rename_i h
  rw [if_neg]
  exact find_none.1 hf _ (List.getElem_mem _)
 rfl
theorem find_set {l : List Nd} (ha : Asc l) {i : Nat} (hi : i < l.length) (y : Nd) (hy : y.path = l[i].path) (p : Bs) : find (l.set i y) p = if p = y.path then some y else find l p := by
 have hasc : Asc (l.set i y) := by
  intro a b hA hB hab
  simp only [List.length_set] at hA hB
  rw [List.getElem_set, List.getElem_set]
  split <;> split
  ·omega
  ·rename_i h1 h2; subst h1; rw [hy]; exact ha _ _ _ _ hab
  ·rename_i h1 h2; subst h2; rw [hy]; exact ha _ _ _ _ hab
  exact ha _ _ _ _ hab
 split
 ·rename_i h; subst h
  exact find_of hasc (List.mem_set hi y)
 rename_i h
 cases hf : find l p with
 | none =>
  rw [find_none] at hf ⊢
  intro x hx
  rcases List.mem_or_eq_of_mem_set hx with hx | rfl
  ·exact hf x hx
  exact fun e => h e.symm
 | some x => ?_
 obtain ⟨hm, rfl⟩ := find_mem hf
 rw [find_iff hasc]
 refine ⟨?_, rfl⟩
 obtain ⟨j, hj, rfl⟩ := List.getElem_of_mem hm
 have hij : i ≠ j := by rintro rfl; exact h hy.symm
 rw [List.mem_iff_getElem]
 exact ⟨j, by simpa using hj, by rw [List.getElem_set_ne hij]⟩
theorem Asc.set {l : List Nd} (ha : Asc l) {i : Nat} (hi : i < l.length) (y : Nd) (hy : y.path = l[i].path) : Asc (l.set i y) := by
 intro a b hA hB hab
 simp only [List.length_set] at hA hB
 rw [List.getElem_set, List.getElem_set]
 split <;> split
 ·omega
 ·rename_i h1 h2; subst h1; rw [hy]; exact ha _ _ _ _ hab
 ·rename_i h1 h2; subst h2; rw [hy]; exact ha _ _ _ _ hab
 exact ha _ _ _ _ hab
def ins (l : List Nd) (k : Nat) (x : Nd) : List Nd := l.take k ++ x :: l.drop k
theorem ins_length (l : List Nd) (k : Nat) (x : Nd) : (ins l k x).length = l.length + 1 := by
 unfold ins; simp; omega
theorem ins_zero (l : List Nd) (x : Nd) : ins l 0 x = x :: l := rfl
theorem ins_succ (a : Nd) (l : List Nd) (k : Nat) (x : Nd) : ins (a :: l) (k + 1) x = a :: ins l k x := rfl
theorem mem_ins {l : List Nd} {k : Nat} {x y : Nd} : y ∈ ins l k x ↔ y = x ∨ y ∈ l := by
 unfold ins
 rw [List.mem_append, List.mem_cons]
 constructor
 ·rintro (h | h | h)
  ·exact .inr (List.mem_of_mem_take h)
  ·exact .inl h
  exact .inr (List.mem_of_mem_drop h)
 rintro (h | h)
 ·exact .inr (.inl h)
 rw [← List.take_append_drop k l, List.mem_append] at h
 rcases h with h | h
 ·exact .inl h
 exact .inr (.inr h)
theorem Asc.cons {a : Nd} {l : List Nd} (h : Asc l) (k : ∀ b ∈ l, lt a.path b.path = true) : Asc (a :: l) := by
 rw [asc_iff] at h ⊢; exact List.pairwise_cons.2 ⟨k, h⟩
theorem Asc.ins {l : List Nd} (ha : Asc l) (x : Nd) (h : find l x.path = none) : Asc (ins l (place l x.path) x) := by
 induction l with
 | nil => exact Asc.cons (by intro i j hi; simp at hi) (by simp)
 | cons a l ih =>
  have hne : a.path ≠ x.path := find_none.1 h a (by simp)
  rw [place_cons]
  by_cases hb : lt a.path x.path = true
  ·rw [if_pos hb, ins_succ]
   refine Asc.cons (ih ha.tail (find_none.2 fun y hy => find_none.1 h y (by simp [hy]))) ?_
   intro b hm
   rw [mem_ins] at hm
   rcases hm with rfl | hm
   ·exact hb
   exact ha.head b hm
  rw [if_neg hb]
  have z : place l x.path = 0 := by
   unfold place; rw [List.countP_eq_zero]
   intro y hy hc; exact hb (lt_trans (ha.head y hy) hc)
  rw [z, Nat.zero_add, ins_zero]
  have hxa : lt x.path a.path = true := lt_of (Bool.not_eq_true _ ▸ hb) hne
  refine Asc.cons ha ?_
  intro b hm
  rw [List.mem_cons] at hm
  rcases hm with rfl | hm
  ·exact hxa
  exact lt_trans hxa (ha.head b hm)
theorem find_ins {l : List Nd} (ha : Asc l) (x : Nd) (h : find l x.path = none) (p : Bs) : find (ins l (place l x.path) x) p = if p = x.path then some x else find l p := by
 have hasc := ha.ins x h
 split
 ·rename_i e; subst e; exact find_of hasc (mem_ins.2 (.inl rfl))
 rename_i e
 cases hf : find l p with
 | none =>
  rw [find_none] at hf ⊢
  intro y hy
  rcases mem_ins.1 hy with rfl | hy
  ·exact fun h => e h.symm
  exact hf y hy
 | some y => ?_
 obtain ⟨hm, rfl⟩ := find_mem hf
 exact find_of hasc (mem_ins.2 (.inr hm))
def put : List Nd → Nd → List Nd
 | [], x => [x]
 | a :: l, x => if lt a.path x.path = true then a :: put l x else x :: (a :: l).filter (fun n => n.path != x.path)
theorem filter_none {l : List Nd} {p : Bs} (h : ∀ x ∈ l, x.path ≠ p) : l.filter (fun n => n.path != p) = l := by
 rw [List.filter_eq_self]; intro x hx; simpa using h x hx
theorem put_ins {l : List Nd} (ha : Asc l) (x : Nd) (h : find l x.path = none) : put l x = ins l (place l x.path) x := by
 induction l with
 | nil => rfl
 | cons a l ih =>
  rw [place_cons, put]
  by_cases hb : lt a.path x.path = true
  ·rw [if_pos hb, if_pos hb, ins_succ, ih ha.tail (find_none.2 fun y hy => find_none.1 h y (by simp [hy]))]
  rw [if_neg hb, if_neg hb]
  have z : place l x.path = 0 := by
   unfold place; rw [List.countP_eq_zero]
   intro y hy hc; exact hb (lt_trans (ha.head y hy) hc)
  rw [z, Nat.zero_add, ins_zero, filter_none (find_none.1 h)]
theorem erase_eq {l : List Nd} (ha : Asc l) {p : Bs} (hk : place l p < l.length) (h : (l[place l p]).path = p) : l.filter (fun n => n.path != p) = l.eraseIdx (place l p) := by
 induction l with
 | nil => simp at hk
 | cons a l ih =>
  by_cases hb : lt a.path p = true
  ·have e : place (a :: l) p = place l p + 1 := by rw [place_cons, if_pos hb]
   simp only [e, List.getElem_cons_succ, List.length_cons] at h hk
   rw [e, List.eraseIdx_cons_succ, List.filter_cons, if_pos (by simpa using lt_ne hb), ih ha.tail (by omega) h]
  have z : place l p = 0 := by
   unfold place; rw [List.countP_eq_zero]
   intro y hy hc; exact hb (lt_trans (ha.head y hy) hc)
  have e : place (a :: l) p = 0 := by rw [place_cons, if_neg hb, z]
  simp only [e, List.getElem_cons_zero] at h
  rw [e, List.eraseIdx_cons_zero, List.filter_cons, if_neg (by simp [h]), filter_none]
  intro y hy; rw [← h]; exact (lt_ne (ha.head y hy)).symm
def kids (l : List Nd) (p : Bs) : List Nd := l.filter (fun n => parent n.path == some p)
def named (o : Opn) (u : Bs) (turn : Int) : Option Bs := if o.turns = true then (numbered (last o.path) turn).bind (join u) else some o.path
def may (o : Opn) : Bool :=
 (split o.path).isSome && decide (o.data.length ≤ 256 ∧ 0 ≤ o.own ∧ o.own ≤ 1099511627776) &&
 (if o.kind = 1 then decide (o.path ≠ [47] ∧ o.ver = 0)
  else if o.kind = 2 then decide (o.path ≠ [47] ∧ -1 ≤ o.ver ∧ o.ver ≤ 281474976710656 ∧ o.data = [] ∧ o.own = 0 ∧ o.turns = false)
  else if o.kind = 3 then decide (-1 ≤ o.ver ∧ o.ver ≤ 281474976710656 ∧ o.own = 0 ∧ o.turns = false)
  else if o.kind = 4 then decide (-1 ≤ o.ver ∧ o.ver ≤ 281474976710656 ∧ o.data = [] ∧ o.own = 0 ∧ o.turns = false)
  else if o.kind = 5 ∨ o.kind = 6 then decide (o.ver = 0 ∧ o.data = [] ∧ o.own = 0 ∧ o.turns = false)
  else if o.kind = 7 then decide (o.ver = 0 ∧ o.data = [] ∧ 0 < o.own ∧ o.turns = false)
  else false)
def create (l : List Nd) (o : Opn) : List Nd × Res :=
 let u := (parent o.path).getD []
 match find l u with
 | none => (l, .bad 62)
 | some x => if x.own ≠ 0 then (l, .bad 65) else match named o u x.turn with
  | none => (l, .bad 66)
  | some p => if (find l p).isSome = true then (l, .bad 61) else if l.length = 512 then (l, .bad 2) else
    (ins (if o.turns = true then l.set (place l u) { x with turn := x.turn + 1 } else l) (place l p) ⟨p, o.data, 0, 0, o.own⟩, ⟨0, p, [], 0, []⟩)
def swept (o : Opn) (n : Nd) : Bool := n.own == o.own && parent n.path == some o.path
def doit (l : List Nd) (o : Opn) (x : Nd) : List Nd × Res :=
 if o.kind = 2 then (if kids l o.path = [] then (l.eraseIdx (place l o.path), ⟨0, [], [], 0, []⟩) else (l, .bad 64))
 else if o.kind = 3 then (if x.ver = 281474976710656 then (l, .bad 2) else (l.set (place l o.path) { x with data := o.data, ver := x.ver + 1 }, ⟨0, [], [], x.ver + 1, []⟩))
 else if o.kind = 4 then (l, ⟨0, [], [], x.ver, []⟩)
 else if o.kind = 5 then (l, ⟨0, [], x.data, x.ver, []⟩)
 else if o.kind = 6 then (l, ⟨0, [], [], 0, (kids l o.path).map (fun n => last n.path)⟩)
 else (l.filter (fun n => !swept o n), ⟨0, [], [], 0, (l.filter (swept o)).map (fun n => last n.path)⟩)
def versioned (k : Int) : Bool := k == 2 || k == 3 || k == 4
def perform (l : List Nd) (o : Opn) : List Nd × Res :=
 if o.kind = 1 then create l o
 else match find l o.path with
  | none => (l, .bad 62)
  | some x => if versioned o.kind = true ∧ o.ver ≠ -1 ∧ o.ver ≠ x.ver then (l, .bad 63) else doit l o x
noncomputable def apply (l : List Nd) (o : Opn) : List Nd × Res := if right l && may o then perform l o else ([], .bad 1)
end Pm
end Go.Proofs.YtphoglepiegeiaaGreatDoor
