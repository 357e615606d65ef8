/- Texts of this proof, merged. -/
import Derived.Test.YtlmfinpmlilcgaaZA
set_option linter.unusedVariables false
set_option linter.unusedSimpArgs false
/- Package path's functions, as later layers use them. -/
namespace Go.Proofs.Ytlmfinpmlilcgaa
set_option maxRecDepth 20000
open Go.RowKit Pm

/-- The call has made memory, and written to nothing that was there. -/
def Gr (w w' : World) : Prop := Below w.heap.size w w'
theorem Gr.refl (w : World) : Gr w w := Below.refl _ _
theorem Gr.trans {a b c : World} (h : Gr a b) (k : Gr b c) : Gr a c := Below.trans h (Below.mono k h.size)
theorem Gr.drew {a b : World} (h : Gr a b) (n : Nat) : Gr a (b.drewN n) := below_drewN h n

def sz (l : Bs) : Prop := l.length ≤ 4611686018427387904
theorem sz_of {l : Bs} {k : Nat} (h : l.length ≤ k) (hk : k ≤ 4611686018427387904) : sz l := Nat.le_trans h hk

theorem Parent_g (l : Bs) (w : World) (hl : sz l) : Calls Try.prog 68 #[.string (B l)] w fun e w' => e = .returned (.tuple #[.string (B ((parent l).getD [])), .bool (parent l).isSome]) ∧ Gr w w' := Parent_c l w hl
theorem Right_g (l : Bs) (w : World) (hl : sz l) : Calls Try.prog 41 #[.string (B l)] w fun e w' => e = .returned (.bool (split l).isSome) ∧ Gr w w' := Right_c l w hl
theorem Split_g (l : Bs) (w : World) (hl : sz l) : Calls Try.prog 57 #[.string (B l)] w fun e w' => (∃ v, e = .returned (.tuple #[v, .bool (split l).isSome]) ∧ Own w.heap.size w' v ((split l).getD [])) ∧ Gr w w' :=
  (Split_c l w hl).mono fun _ _ ⟨v, h1, h2, h3⟩ => ⟨⟨v, h1, h2⟩, h3⟩

theorem Own.cells {b0 : Nat} {w : World} {ao : Option Addr} {n cap : Nat} {ps : List Bs} (h : Own b0 w (.slice ao n cap) ps) :
    ∀ (w3 : World), Gr w w3 → ∀ k (hk : k < ps.length), ∃ g, ao = some ⟨g, 0, none⟩ ∧ w3.cell? ⟨g, k, none⟩ = some (.string (B ps[k])) := by
  intro w3 g3 k hk
  match ps, h, hk with
  | q :: r, h, hk =>
    obtain ⟨g, c, hv, _, hl⟩ := h.lies
    injection hv with hv _ _
    refine ⟨g, hv, ?_⟩
    rw [Below.cell g3 (p := ⟨g, k, none⟩) hl.lt]
    exact hl.cell k hk



end Go.Proofs.Ytlmfinpmlilcgaa

/- Plain lists: nodes, trees of them, operations and their results. Nothing of the program. -/
namespace Go.Proofs.Ytlmfinpmlilcgaa
set_option maxRecDepth 20000
namespace Pm

structure Nd where
  path : Bs
  data : Bs
  ver : Int
  turn : Int
  own : Int
deriving DecidableEq

structure Opn where
  kind : Int
  path : Bs
  data : Bs
  ver : Int
  own : Int
  turns : Bool
deriving DecidableEq

structure Res where
  err : Int
  path : Bs
  data : Bs
  ver : Int
  names : List Bs
deriving DecidableEq

def Res.bad (e : Int) : Res := ⟨e, [], [], 0, []⟩

/-- The order of texts. -/
abbrev lt (a b : Bs) : Bool := Op.bytesLess a b

theorem lt_nil_right (a : Bs) : lt a [] = false := by cases a <;> rfl
theorem lt_cons (a b : UInt8) (x y : Bs) : lt (a :: x) (b :: y) = (decide (a < b) || (a == b && lt x y)) := rfl
theorem lt_irrefl : ∀ a : Bs, lt a a = false
  | [] => rfl
  | c :: a => by rw [lt_cons, lt_irrefl a]; simp
theorem lt_trans : ∀ {a b c : Bs}, lt a b = true → lt b c = true → lt a c = true
  | _, _, [], _, h => by rw [lt_nil_right] at h; cases h
  | _, [], _ :: _, h, _ => by rw [lt_nil_right] at h; cases h
  | [], _ :: _, _ :: _, _, _ => rfl
  | x :: a, y :: b, z :: c, h, k => by
    rw [lt_cons] at h k ⊢
    simp only [Bool.or_eq_true, Bool.and_eq_true, decide_eq_true_eq, beq_iff_eq] at h k ⊢
    rcases h with h | ⟨rfl, h⟩ <;> rcases k with k | ⟨rfl, k⟩
    · exact .inl (UInt8.lt_trans h k)
    · exact .inl h
    · exact .inl k
    · exact .inr ⟨rfl, lt_trans h k⟩
theorem lt_total : ∀ (a b : Bs), lt a b = false → lt b a = false → a = b
  | [], [], _, _ => rfl
  | [], _ :: _, h, _ => by cases h
  | _ :: _, [], _, h => by cases h
  | x :: a, y :: b, h, k => by
    rw [lt_cons] at h k
    simp only [Bool.or_eq_false_iff, Bool.and_eq_false_iff, decide_eq_false_iff_not, beq_eq_false_iff_ne] at h k
    have e : x = y := UInt8.le_antisymm (UInt8.not_lt.1 k.1) (UInt8.not_lt.1 h.1)
    subst e
    have h2 := h.2.resolve_left (fun f => f rfl)
    have k2 := k.2.resolve_left (fun f => f rfl)
    rw [lt_total a b h2 k2]
theorem lt_asymm {a b : Bs} (h : lt a b = true) : lt b a = false := by
  cases k : lt b a with
  | false => rfl
  | true => have := lt_trans h k; rw [lt_irrefl] at this; cases this
theorem lt_ne {a b : Bs} (h : lt a b = true) : a ≠ b := by
  rintro rfl; rw [lt_irrefl] at h; cases h
/-- not below, not alike: above. -/
theorem lt_of {a b : Bs} (h : lt a b = false) (k : a ≠ b) : lt b a = true := by
  cases h2 : lt b a with
  | true => rfl
  | false => exact absurd (lt_total a b h h2) k
theorem lt_of_le_lt {a b c : Bs} (h : lt b a = false) (k : lt b c = true) : lt a c = true := by
  by_cases e : b = a
  · subst e; exact k
  · exact lt_trans (lt_of h e) k
theorem lt_le_trans {a b c : Bs} (h : lt a b = true) (k : lt c b = false) : lt a c = true := by
  by_cases e : c = b
  · subst e; exact h
  · exact lt_trans h (lt_of k e)
theorem lt_prefix : ∀ (a : Bs) (c : UInt8) (b : Bs), lt a (a ++ c :: b) = true
  | [], _, _ => rfl
  | x :: a, c, b => by rw [List.cons_append, lt_cons, lt_prefix a c b]; simp
theorem lt_append (p : Bs) (a b : Bs) : lt (p ++ a) (p ++ b) = lt a b := less_app p a b

/-- compareBytes, by the order. -/
theorem not_le_lt {a b : Bs} (h : lt a b = false) : a = b ∨ lt b a = true := by
  by_cases e : a = b
  · exact .inl e
  · exact .inr (lt_of h e)

def find (l : List Nd) (p : Bs) : Option Nd := l.find? (fun n => n.path == p)

def fitsB (n : Nd) : Bool := decide (n.data.length ≤ 256 ∧ 0 ≤ n.ver ∧ n.ver ≤ 281474976710656 ∧ 0 ≤ n.turn ∧ n.turn ≤ 10000 ∧ 0 ≤ n.own ∧ n.own ≤ 1099511627776 ∧ (n.own = 0 ∨ n.turn = 0))

def free (l : List Nd) (u : Bs) : Bool := match find l u with
  | some x => x.own == 0
  | none => false

def lies (l : List Nd) (n : Nd) : Bool := match parent n.path with
  | some u => free l u
  | none => false

/-- Each is above the one ahead. -/
def asc : List Nd → Prop
  | [] => True
  | [_] => True
  | a :: b :: r => lt a.path b.path = true ∧ asc (b :: r)

/-- Is it a tree? as a Prop. -/
structure Tree (l : List Nd) : Prop where
  pos : 0 < l.length
  most : l.length ≤ 512
  root : (l[0]'pos).path = [47]
  free : (l[0]'pos).own = 0
  fit : ∀ i (h : i < l.length), fitsB l[i] = true
  up : ∀ i (h : i + 1 < l.length), lt l[i].path l[i+1].path = true
  lie : ∀ i (h : i < l.length), 0 < i → lies l l[i] = true

open Classical in
noncomputable def right (l : List Nd) : Bool := decide (Tree l)
theorem right_iff (l : List Nd) : right l = true ↔ Tree l := by unfold right; simp
theorem right_false {l : List Nd} (h : ¬ Tree l) : right l = false := by unfold right; simp [h]
theorem right_true {l : List Nd} (h : Tree l) : right l = true := by unfold right; simp [h]

/-- Rising, any two. -/
def Asc (l : List Nd) : Prop := ∀ i j (hi : i < l.length) (hj : j < l.length), i < j → lt l[i].path l[j].path = true

theorem asc_of {l : List Nd} (h : ∀ i (h : i + 1 < l.length), lt l[i].path l[i+1].path = true) : Asc l := by
  intro i j hi hj hij
  obtain ⟨d, rfl⟩ : ∃ d, j = i + 1 + d := ⟨j - (i + 1), by omega⟩
  clear hij
  induction d with
  | zero => exact h i hj
  | succ d ih => exact lt_trans (ih (by omega)) (h (i + 1 + d) (by omega))
theorem Tree.asc {l : List Nd} (h : Tree l) : Asc l := asc_of h.up
theorem Asc.step {l : List Nd} (h : Asc l) : ∀ i (hi : i + 1 < l.length), lt l[i].path l[i+1].path = true := fun i hi => h i (i + 1) (by omega) hi (by omega)

theorem Asc.inj {l : List Nd} (h : Asc l) {i j : Nat} (hi : i < l.length) (hj : j < l.length) (e : l[i].path = l[j].path) : i = j := by
  rcases Nat.lt_trichotomy i j with k | k | k
  · exact absurd e (lt_ne (h i j hi hj k))
  · exact k
  · exact absurd e.symm (lt_ne (h j i hj hi k))

theorem asc_iff {l : List Nd} : Asc l ↔ l.Pairwise (fun a b => lt a.path b.path = true) := by
  rw [List.pairwise_iff_getElem]; rfl
theorem Asc.filter {l : List Nd} (h : Asc l) (p : Nd → Bool) : Asc (l.filter p) := asc_iff.2 ((asc_iff.1 h).filter p)
theorem Asc.tail {a : Nd} {l : List Nd} (h : Asc (a :: l)) : Asc l := by
  rw [asc_iff] at h ⊢; exact (List.pairwise_cons.1 h).2
theorem Asc.head {a : Nd} {l : List Nd} (h : Asc (a :: l)) : ∀ b ∈ l, lt a.path b.path = true := by
  rw [asc_iff] at h; exact (List.pairwise_cons.1 h).1

theorem find_mem {l : List Nd} {p : Bs} {x : Nd} (h : find l p = some x) : x ∈ l ∧ x.path = p := by
  unfold find at h
  exact ⟨List.mem_of_find?_eq_some h, by simpa using List.find?_some h⟩
theorem find_none {l : List Nd} {p : Bs} : find l p = none ↔ ∀ x ∈ l, x.path ≠ p := by
  unfold find; rw [List.find?_eq_none]; simp
theorem find_of {l : List Nd} (ha : Asc l) {x : Nd} (h : x ∈ l) : find l x.path = some x := by
  induction l with
  | nil => simp at h
  | cons a l ih =>
    rw [List.mem_cons] at h
    unfold find
    rw [List.find?_cons]
    rcases h with rfl | h
    · simp
    · rw [show (a.path == x.path) = false from by simpa using lt_ne (ha.head x h)]
      exact ih ha.tail h
theorem find_iff {l : List Nd} (ha : Asc l) {p : Bs} {x : Nd} : find l p = some x ↔ x ∈ l ∧ x.path = p :=
  ⟨find_mem, fun ⟨h, e⟩ => e ▸ find_of ha h⟩
theorem find_isSome {l : List Nd} {p : Bs} : (find l p).isSome = true ↔ ∃ x ∈ l, x.path = p := by
  cases h : find l p with
  | none => rw [find_none] at h; simp; exact h
  | some x => simp; exact ⟨x, (find_mem h).1, (find_mem h).2⟩

/-- Of which the last part is taken: it is not it. -/
theorem parent_lt {l u : Bs} (h : parent l = some u) : lt u l = true := by
  unfold parent at h
  split at h
  · rename_i p r hs
    injection h with h
    have hP := (split_iff _ _).1 hs
    have hne : (p :: r) ≠ [] := by simp
    have e := List.dropLast_concat_getLast hne
    generalize hd : (p :: r).dropLast = d at e h
    generalize (p :: r).getLast hne = q at e
    rw [← h, ← hP.2, ← e]
    cases d with
    | nil =>
      rw [List.nil_append, joinP_cons, flat_cons]
      have : isPart q = true := hP.1.2 q (by rw [← e]; simp)
      obtain ⟨k, _⟩ := isPart_len this
      cases q with
      | nil => simp at k
      | cons c q => rfl
    | cons a d =>
      rw [joinP_cons, List.cons_append, joinP_cons, ← List.cons_append]
      have : flat (a :: d ++ [q]) = flat (a :: d) ++ 47 :: (q ++ []) := by unfold flat; rw [List.map_append, List.flatten_append]; simp
      rw [this]; exact lt_prefix _ _ _
  · cases h

theorem parent_root : parent [47] = none := rfl

end Pm
end Go.Proofs.Ytlmfinpmlilcgaa

/- Plain lists: where a node lies, what is put, taken away; operations. Nothing of the program. -/
namespace Go.Proofs.Ytlmfinpmlilcgaa
set_option maxRecDepth 20000
namespace Pm

/-- Where a path lies, or would. -/
def place (l : List Nd) (p : Bs) : Nat := l.countP (fun n => lt n.path p)
theorem place_le (l : List Nd) (p : Bs) : place l p ≤ l.length := List.countP_le_length

theorem place_of {l : List Nd} {p : Bs} {k : Nat} (hk : k ≤ l.length) (h1 : ∀ i (h : i < l.length), i < k → lt l[i].path p = true)
    (h2 : ∀ i (h : i < l.length), k ≤ i → lt l[i].path p = false) : place l p = k := by
  unfold place
  induction l generalizing k with
  | nil => simp at hk; simp [hk]
  | cons a l ih =>
    cases k with
    | zero =>
      rw [List.countP_eq_zero]
      intro x hx
      obtain ⟨i, hi, rfl⟩ := List.getElem_of_mem hx
      rw [h2 i hi (Nat.zero_le _)]; simp
    | succ k =>
      rw [List.countP_cons, show lt a.path p = true from h1 0 (by simp) (by omega)]
      rw [ih (k := k) (by simpa using hk) (fun i h hik => by have := h1 (i + 1) (by simpa using h) (by omega); rwa [List.getElem_cons_succ] at this) (fun i h hik => by have := h2 (i + 1) (by simpa using h) (by omega); rwa [List.getElem_cons_succ] at this)]
      simp

theorem place_cons (a : Nd) (l : List Nd) (p : Bs) : place (a :: l) p = place l p + if lt a.path p = true then 1 else 0 := by
  unfold place; rw [List.countP_cons]

/-- Of a rising list: all ahead of the place are below, all behind it are not. -/
theorem place_low {l : List Nd} (ha : Asc l) (p : Bs) : ∀ i (h : i < l.length), (lt l[i].path p = true ↔ i < place l p) := by
  induction l with
  | nil => intro i h; simp at h
  | cons a l ih =>
    intro i h
    rw [place_cons]
    by_cases hb : lt a.path p = true
    · rw [if_pos hb]
      cases i with
      | zero => simpa using hb
      | succ i => simpa using ih ha.tail i (by simpa using h)
    · rw [if_neg hb]
      have z : place l p = 0 := by
        unfold place; rw [List.countP_eq_zero]
        intro x hx
        have := ha.head x hx
        intro hc; exact hb (lt_trans this hc)
      rw [z]
      cases i with
      | zero => simpa using hb
      | succ i =>
        have := ha.head (l[i]'(by simpa using h)) (List.getElem_mem _)
        simp only [List.getElem_cons_succ]
        constructor
        · intro hc; exact absurd (lt_trans this hc) hb
        · intro hc; omega

theorem place_at {l : List Nd} (ha : Asc l) {i : Nat} (h : i < l.length) : place l l[i].path = i := by
  have k := place_low ha l[i].path
  have h1 := k i h
  rw [lt_irrefl] at h1
  simp at h1
  rcases Nat.lt_or_ge i (place l l[i].path) with h2 | h2
  · omega
  · rcases Nat.lt_or_ge (place l l[i].path) i with h3 | h3
    · exact absurd ((k _ (Nat.lt_trans h3 h)).1 (ha _ _ (Nat.lt_trans h3 h) h h3)) (Nat.lt_irrefl _)
    · omega

theorem find_at {l : List Nd} (ha : Asc l) {p : Bs} {x : Nd} (h : find l p = some x) : ∃ hk : place l p < l.length, l[place l p] = x := by
  obtain ⟨hm, rfl⟩ := find_mem h
  obtain ⟨i, hi, rfl⟩ := List.getElem_of_mem hm
  have e := place_at ha hi
  exact ⟨by rw [e]; exact hi, by simp only [e]⟩
theorem find_place {l : List Nd} (ha : Asc l) (p : Bs) : find l p = if h : place l p < l.length then (if (l[place l p]).path = p then some l[place l p] else none) else none := by
  cases hf : find l p with
  | some x =>
    obtain ⟨hk, e⟩ := find_at ha hf
    rw [dif_pos hk, e, if_pos (find_mem hf).2]
  | none =>
    split
    · rename_i h
      rw [if_neg]
      exact find_none.1 hf _ (List.getElem_mem _)
    · rfl

theorem find_set {l : List Nd} (ha : Asc l) {i : Nat} (hi : i < l.length) (y : Nd) (hy : y.path = l[i].path) (p : Bs) : find (l.set i y) p = if p = y.path then some y else find l p := by
  have hasc : Asc (l.set i y) := by
    intro a b hA hB hab
    simp only [List.length_set] at hA hB
    rw [List.getElem_set, List.getElem_set]
    split <;> split
    · omega
    · rename_i h1 h2; subst h1; rw [hy]; exact ha _ _ _ _ hab
    · rename_i h1 h2; subst h2; rw [hy]; exact ha _ _ _ _ hab
    · exact ha _ _ _ _ hab
  split
  · rename_i h; subst h
    exact find_of hasc (List.mem_set hi y)
  · rename_i h
    cases hf : find l p with
    | none =>
      rw [find_none] at hf ⊢
      intro x hx
      rcases List.mem_or_eq_of_mem_set hx with hx | rfl
      · exact hf x hx
      · exact fun e => h e.symm
    | some x =>
      obtain ⟨hm, rfl⟩ := find_mem hf
      rw [find_iff hasc]
      refine ⟨?_, rfl⟩
      obtain ⟨j, hj, rfl⟩ := List.getElem_of_mem hm
      have hij : i ≠ j := by rintro rfl; exact h hy.symm
      rw [List.mem_iff_getElem]
      exact ⟨j, by simpa using hj, by rw [List.getElem_set_ne hij]⟩
theorem Asc.set {l : List Nd} (ha : Asc l) {i : Nat} (hi : i < l.length) (y : Nd) (hy : y.path = l[i].path) : Asc (l.set i y) := by
  intro a b hA hB hab
  simp only [List.length_set] at hA hB
  rw [List.getElem_set, List.getElem_set]
  split <;> split
  · omega
  · rename_i h1 h2; subst h1; rw [hy]; exact ha _ _ _ _ hab
  · rename_i h1 h2; subst h2; rw [hy]; exact ha _ _ _ _ hab
  · exact ha _ _ _ _ hab

def ins (l : List Nd) (k : Nat) (x : Nd) : List Nd := l.take k ++ x :: l.drop k
theorem ins_length (l : List Nd) (k : Nat) (x : Nd) : (ins l k x).length = l.length + 1 := by
  unfold ins; simp; omega
theorem ins_zero (l : List Nd) (x : Nd) : ins l 0 x = x :: l := rfl
theorem ins_succ (a : Nd) (l : List Nd) (k : Nat) (x : Nd) : ins (a :: l) (k + 1) x = a :: ins l k x := rfl
theorem mem_ins {l : List Nd} {k : Nat} {x y : Nd} : y ∈ ins l k x ↔ y = x ∨ y ∈ l := by
  unfold ins
  rw [List.mem_append, List.mem_cons]
  constructor
  · rintro (h | h | h)
    · exact .inr (List.mem_of_mem_take h)
    · exact .inl h
    · exact .inr (List.mem_of_mem_drop h)
  · rintro (h | h)
    · exact .inr (.inl h)
    · rw [← List.take_append_drop k l, List.mem_append] at h
      rcases h with h | h
      · exact .inl h
      · exact .inr (.inr h)

theorem Asc.cons {a : Nd} {l : List Nd} (h : Asc l) (k : ∀ b ∈ l, lt a.path b.path = true) : Asc (a :: l) := by
  rw [asc_iff] at h ⊢; exact List.pairwise_cons.2 ⟨k, h⟩

/-- What is put where nothing of its path lies. -/
theorem Asc.ins {l : List Nd} (ha : Asc l) (x : Nd) (h : find l x.path = none) : Asc (ins l (place l x.path) x) := by
  induction l with
  | nil => exact Asc.cons (by intro i j hi; simp at hi) (by simp)
  | cons a l ih =>
    have hne : a.path ≠ x.path := find_none.1 h a (by simp)
    rw [place_cons]
    by_cases hb : lt a.path x.path = true
    · rw [if_pos hb, ins_succ]
      refine Asc.cons (ih ha.tail (find_none.2 fun y hy => find_none.1 h y (by simp [hy]))) ?_
      intro b hm
      rw [mem_ins] at hm
      rcases hm with rfl | hm
      · exact hb
      · exact ha.head b hm
    · rw [if_neg hb]
      have z : place l x.path = 0 := by
        unfold place; rw [List.countP_eq_zero]
        intro y hy hc; exact hb (lt_trans (ha.head y hy) hc)
      rw [z, Nat.zero_add, ins_zero]
      have hxa : lt x.path a.path = true := lt_of (Bool.not_eq_true _ ▸ hb) hne
      refine Asc.cons ha ?_
      intro b hm
      rw [List.mem_cons] at hm
      rcases hm with rfl | hm
      · exact hxa
      · exact lt_trans hxa (ha.head b hm)

theorem find_ins {l : List Nd} (ha : Asc l) (x : Nd) (h : find l x.path = none) (p : Bs) : find (ins l (place l x.path) x) p = if p = x.path then some x else find l p := by
  have hasc := ha.ins x h
  split
  · rename_i e; subst e; exact find_of hasc (mem_ins.2 (.inl rfl))
  · rename_i e
    cases hf : find l p with
    | none =>
      rw [find_none] at hf ⊢
      intro y hy
      rcases mem_ins.1 hy with rfl | hy
      · exact fun h => e h.symm
      · exact hf y hy
    | some y =>
      obtain ⟨hm, rfl⟩ := find_mem hf
      exact find_of hasc (mem_ins.2 (.inr hm))

/-- The document's Put. -/
def put : List Nd → Nd → List Nd
  | [], x => [x]
  | a :: l, x => if lt a.path x.path = true then a :: put l x else x :: (a :: l).filter (fun n => n.path != x.path)

theorem filter_none {l : List Nd} {p : Bs} (h : ∀ x ∈ l, x.path ≠ p) : l.filter (fun n => n.path != p) = l := by
  rw [List.filter_eq_self]; intro x hx; simpa using h x hx

theorem put_ins {l : List Nd} (ha : Asc l) (x : Nd) (h : find l x.path = none) : put l x = ins l (place l x.path) x := by
  induction l with
  | nil => rfl
  | cons a l ih =>
    rw [place_cons, put]
    by_cases hb : lt a.path x.path = true
    · rw [if_pos hb, if_pos hb, ins_succ, ih ha.tail (find_none.2 fun y hy => find_none.1 h y (by simp [hy]))]
    · rw [if_neg hb, if_neg hb]
      have z : place l x.path = 0 := by
        unfold place; rw [List.countP_eq_zero]
        intro y hy hc; exact hb (lt_trans (ha.head y hy) hc)
      rw [z, Nat.zero_add, ins_zero, filter_none (find_none.1 h)]

theorem put_set {l : List Nd} (ha : Asc l) (x : Nd) (hk : place l x.path < l.length) (h : (l[place l x.path]).path = x.path) : put l x = l.set (place l x.path) x := by
  induction l with
  | nil => simp at hk
  | cons a l ih =>
    rw [put]
    by_cases hb : lt a.path x.path = true
    · have e : place (a :: l) x.path = place l x.path + 1 := by rw [place_cons, if_pos hb]
      simp only [e, List.getElem_cons_succ, List.length_cons] at h hk
      rw [if_pos hb, e, List.set_cons_succ, ih ha.tail (by omega) h]
    · have z : place l x.path = 0 := by
        unfold place; rw [List.countP_eq_zero]
        intro y hy hc; exact hb (lt_trans (ha.head y hy) hc)
      have e : place (a :: l) x.path = 0 := by rw [place_cons, if_neg hb, z]
      simp only [e, List.getElem_cons_zero] at h
      rw [if_neg hb, e, List.set_cons_zero, List.filter_cons, if_neg (by simp [h]), filter_none]
      intro y hy; rw [← h]; exact (lt_ne (ha.head y hy)).symm

/-- Taken away. -/
theorem erase_eq {l : List Nd} (ha : Asc l) {p : Bs} (hk : place l p < l.length) (h : (l[place l p]).path = p) : l.filter (fun n => n.path != p) = l.eraseIdx (place l p) := by
  induction l with
  | nil => simp at hk
  | cons a l ih =>
    by_cases hb : lt a.path p = true
    · have e : place (a :: l) p = place l p + 1 := by rw [place_cons, if_pos hb]
      simp only [e, List.getElem_cons_succ, List.length_cons] at h hk
      rw [e, List.eraseIdx_cons_succ, List.filter_cons, if_pos (by simpa using lt_ne hb), ih ha.tail (by omega) h]
    · have z : place l p = 0 := by
        unfold place; rw [List.countP_eq_zero]
        intro y hy hc; exact hb (lt_trans (ha.head y hy) hc)
      have e : place (a :: l) p = 0 := by rw [place_cons, if_neg hb, z]
      simp only [e, List.getElem_cons_zero] at h
      rw [e, List.eraseIdx_cons_zero, List.filter_cons, if_neg (by simp [h]), filter_none]
      intro y hy; rw [← h]; exact (lt_ne (ha.head y hy)).symm

def kids (l : List Nd) (p : Bs) : List Nd := l.filter (fun n => parent n.path == some p)

def named (o : Opn) (u : Bs) (turn : Int) : Option Bs := if o.turns = true then (numbered (last o.path) turn).bind (join u) else some o.path

/-- May it be? -/
def may (o : Opn) : Bool :=
  (split o.path).isSome && decide (o.data.length ≤ 256 ∧ 0 ≤ o.own ∧ o.own ≤ 1099511627776) &&
  (if o.kind = 1 then decide (o.path ≠ [47] ∧ o.ver = 0)
   else if o.kind = 2 then decide (o.path ≠ [47] ∧ -1 ≤ o.ver ∧ o.ver ≤ 281474976710656 ∧ o.data = [] ∧ o.own = 0 ∧ o.turns = false)
   else if o.kind = 3 then decide (-1 ≤ o.ver ∧ o.ver ≤ 281474976710656 ∧ o.own = 0 ∧ o.turns = false)
   else if o.kind = 4 then decide (-1 ≤ o.ver ∧ o.ver ≤ 281474976710656 ∧ o.data = [] ∧ o.own = 0 ∧ o.turns = false)
   else if o.kind = 5 ∨ o.kind = 6 then decide (o.ver = 0 ∧ o.data = [] ∧ o.own = 0 ∧ o.turns = false)
   else if o.kind = 7 then decide (o.ver = 0 ∧ o.data = [] ∧ 0 < o.own ∧ o.turns = false)
   else false)

def create (l : List Nd) (o : Opn) : List Nd × Res :=
  let u := (parent o.path).getD []
  match find l u with
  | none => (l, .bad 62)
  | some x => if x.own ≠ 0 then (l, .bad 65) else match named o u x.turn with
    | none => (l, .bad 66)
    | some p => if (find l p).isSome = true then (l, .bad 61) else if l.length = 512 then (l, .bad 2) else
        (ins (if o.turns = true then l.set (place l u) { x with turn := x.turn + 1 } else l) (place l p) ⟨p, o.data, 0, 0, o.own⟩, ⟨0, p, [], 0, []⟩)

def swept (o : Opn) (n : Nd) : Bool := n.own == o.own && parent n.path == some o.path

def doit (l : List Nd) (o : Opn) (x : Nd) : List Nd × Res :=
  if o.kind = 2 then (if kids l o.path = [] then (l.eraseIdx (place l o.path), ⟨0, [], [], 0, []⟩) else (l, .bad 64))
  else if o.kind = 3 then (if x.ver = 281474976710656 then (l, .bad 2) else (l.set (place l o.path) { x with data := o.data, ver := x.ver + 1 }, ⟨0, [], [], x.ver + 1, []⟩))
  else if o.kind = 4 then (l, ⟨0, [], [], x.ver, []⟩)
  else if o.kind = 5 then (l, ⟨0, [], x.data, x.ver, []⟩)
  else if o.kind = 6 then (l, ⟨0, [], [], 0, (kids l o.path).map (fun n => last n.path)⟩)
  else (l.filter (fun n => !swept o n), ⟨0, [], [], 0, (l.filter (swept o)).map (fun n => last n.path)⟩)

def versioned (k : Int) : Bool := k == 2 || k == 3 || k == 4

def perform (l : List Nd) (o : Opn) : List Nd × Res :=
  if o.kind = 1 then create l o
  else match find l o.path with
    | none => (l, .bad 62)
    | some x => if versioned o.kind = true ∧ o.ver ≠ -1 ∧ o.ver ≠ x.ver then (l, .bad 63) else doit l o x

noncomputable def apply (l : List Nd) (o : Opn) : List Nd × Res := if right l && may o then perform l o else ([], .bad 1)

end Pm
end Go.Proofs.Ytlmfinpmlilcgaa

/- Plain lists: what an operation makes of a tree is a tree. Nothing of the program. -/
namespace Go.Proofs.Ytlmfinpmlilcgaa
set_option maxRecDepth 20000
namespace Pm

/-- A tree, said of what lies in it. -/
structure Tr (l : List Nd) : Prop where
  most : l.length ≤ 512
  root : ∃ r, find l [47] = some r ∧ r.own = 0
  fit : ∀ n ∈ l, fitsB n = true
  asc : Asc l
  lie : ∀ n ∈ l, n.path ≠ [47] → lies l n = true

theorem lies_some {l : List Nd} {n : Nd} (h : lies l n = true) : ∃ u x, parent n.path = some u ∧ find l u = some x ∧ x.own = 0 := by
  unfold lies at h
  split at h
  · rename_i u hu
    unfold free at h
    split at h
    · rename_i x hx
      exact ⟨u, x, hu, hx, by simpa using h⟩
    · cases h
  · cases h
theorem lies_of {l : List Nd} {n : Nd} {u : Bs} {x : Nd} (h : parent n.path = some u) (hx : find l u = some x) (h0 : x.own = 0) : lies l n = true := by
  unfold lies free; rw [h]; simp only; rw [hx]; simpa using h0

theorem Tree.tr {l : List Nd} (h : Tree l) : Tr l := by
  refine ⟨h.most, ⟨l[0]'h.pos, ?_, h.free⟩, ?_, h.asc, ?_⟩
  · rw [find_iff h.asc]; exact ⟨List.getElem_mem _, h.root⟩
  · intro n hn
    obtain ⟨i, hi, rfl⟩ := List.getElem_of_mem hn
    exact h.fit i hi
  · intro n hn hne
    obtain ⟨i, hi, rfl⟩ := List.getElem_of_mem hn
    refine h.lie i hi ?_
    rcases Nat.eq_zero_or_pos i with rfl | k
    · exact absurd h.root hne
    · exact k

theorem Tr.tree {l : List Nd} (h : Tr l) : Tree l := by
  obtain ⟨r, hr, hr0⟩ := h.root
  obtain ⟨hm, hp⟩ := find_mem hr
  have hpos : 0 < l.length := List.length_pos_of_mem hm
  have h0 : (l[0]'hpos).path = [47] := by
    by_cases e : (l[0]'hpos).path = [47]
    · exact e
    · obtain ⟨u, x, hu, hx, _⟩ := lies_some (h.lie _ (List.getElem_mem hpos) e)
      obtain ⟨hxm, rfl⟩ := find_mem hx
      have := parent_lt hu
      obtain ⟨i, hi, rfl⟩ := List.getElem_of_mem hxm
      rcases Nat.eq_zero_or_pos i with rfl | k
      · rw [lt_irrefl] at this; cases this
      · have k2 := lt_asymm (h.asc 0 i hpos hi k); rw [k2] at this; cases this
  have e0 : r = l[0]'hpos := by
    have := find_of h.asc (List.getElem_mem hpos)
    rw [h0, hr] at this; exact Option.some.inj this
  refine ⟨hpos, h.most, h0, e0 ▸ hr0, fun i hi => h.fit _ (List.getElem_mem hi), h.asc.step, fun i hi hpos' => h.lie _ (List.getElem_mem hi) ?_⟩
  intro e
  have := h.asc 0 i hpos hi hpos'
  rw [h0, e, lt_irrefl] at this; cases this

/-- The program's check at one place. -/
def Chk (l : List Nd) (i : Nat) (h : i < l.length) : Prop := fitsB l[i] = true ∧ (0 < i → (∀ h' : i - 1 < l.length, lt l[i-1].path l[i].path = true) ∧ lies (l.take i) l[i] = true)

theorem find_take {l : List Nd} {i : Nat} {p : Bs} {x : Nd} (h : find (l.take i) p = some x) : find l p = some x := by
  unfold find at h ⊢
  rw [← List.take_append_drop i l, List.find?_append, h]; rfl
theorem lies_take {l : List Nd} {i : Nat} {n : Nd} (h : lies (l.take i) n = true) : lies l n = true := by
  obtain ⟨u, x, h1, h2, h3⟩ := lies_some h
  exact lies_of h1 (find_take h2) h3
theorem Tree.lies_take {l : List Nd} (h : Tree l) {i : Nat} (hi : i < l.length) (h0 : 0 < i) : lies (l.take i) l[i] = true := by
  obtain ⟨u, x, h1, h2, h3⟩ := lies_some (h.lie i hi h0)
  refine lies_of h1 ?_ h3
  obtain ⟨hm, rfl⟩ := find_mem h2
  have hA : Asc (l.take i) := asc_iff.2 ((asc_iff.1 h.asc).take)
  refine find_of hA ?_
  obtain ⟨j, hj, rfl⟩ := List.getElem_of_mem hm
  have hlt := parent_lt h1
  have hji : j < i := by
    rcases Nat.lt_or_ge j i with k | k
    · exact k
    · rcases Nat.eq_or_lt_of_le k with rfl | k
      · rw [lt_irrefl] at hlt; cases hlt
      · have := lt_asymm (h.asc i j hi hj k); rw [hlt] at this; cases this
  rw [List.mem_iff_getElem]
  exact ⟨j, by simp; omega, by rw [List.getElem_take]⟩

theorem tree_of_chk {l : List Nd} (hpos : 0 < l.length) (hm : l.length ≤ 512) (h0 : (l[0]'hpos).path = [47]) (hf : (l[0]'hpos).own = 0) (h : ∀ i (hi : i < l.length), Chk l i hi) : Tree l :=
  ⟨hpos, hm, h0, hf, fun i hi => (h i hi).1, fun i hi => by have := ((h (i + 1) hi).2 (by omega)).1 (by omega); simpa using this, fun i hi hp => Pm.lies_take ((h i hi).2 hp).2⟩
theorem Tree.chk {l : List Nd} (h : Tree l) (i : Nat) (hi : i < l.length) : Chk l i hi :=
  ⟨h.fit i hi, fun hp => ⟨fun h' => by have := h.up (i - 1) (by omega); simpa only [show i - 1 + 1 = i from by omega] using this, h.lies_take hi hp⟩⟩

theorem fits_iff (n : Nd) : fitsB n = true ↔ n.data.length ≤ 256 ∧ 0 ≤ n.ver ∧ n.ver ≤ 281474976710656 ∧ 0 ≤ n.turn ∧ n.turn ≤ 10000 ∧ 0 ≤ n.own ∧ n.own ≤ 1099511627776 ∧ (n.own = 0 ∨ n.turn = 0) := by
  unfold fitsB; simp

/-- One node is another one of the same path and owner. -/
theorem Tr.set {l : List Nd} (h : Tr l) {i : Nat} (hi : i < l.length) (y : Nd) (hp : y.path = l[i].path) (ho : y.own = l[i].own) (hf : fitsB y = true) : Tr (l.set i y) := by
  have hfs := find_set h.asc hi y hp
  have hin := find_of h.asc (List.getElem_mem hi)
  have key : ∀ p x, find l p = some x → ∃ z, find (l.set i y) p = some z ∧ z.own = x.own := by
    intro p x hx
    rw [hfs]
    split
    · rename_i e
      refine ⟨y, rfl, ?_⟩
      rw [e, hp, hin] at hx
      rw [ho, Option.some.inj hx]
    · exact ⟨x, hx, rfl⟩
  refine ⟨by rw [List.length_set]; exact h.most, ?_, ?_, h.asc.set hi y hp, ?_⟩
  · obtain ⟨r, hr, h0⟩ := h.root
    obtain ⟨z, hz, e⟩ := key _ _ hr
    exact ⟨z, hz, by rw [e]; exact h0⟩
  · intro n hn
    rcases List.mem_or_eq_of_mem_set hn with k | rfl
    · exact h.fit n k
    · exact hf
  · intro n hn hne
    have : ∃ m ∈ l, m.path = n.path := by
      rcases List.mem_or_eq_of_mem_set hn with k | rfl
      · exact ⟨n, k, rfl⟩
      · exact ⟨l[i], List.getElem_mem hi, hp.symm⟩
    obtain ⟨m, hm, e⟩ := this
    obtain ⟨u, x, h1, h2, h3⟩ := lies_some (h.lie m hm (e ▸ hne))
    obtain ⟨z, hz, e2⟩ := key _ _ h2
    exact lies_of (e ▸ h1) hz (by rw [e2]; exact h3)

theorem Tr.ins {l : List Nd} (h : Tr l) (x : Nd) (hn : find l x.path = none) (hl : lies l x = true) (hf : fitsB x = true) (hm : l.length < 512) : Tr (ins l (place l x.path) x) := by
  have hfi := find_ins h.asc x hn
  have key : ∀ p y, find l p = some y → find (Pm.ins l (place l x.path) x) p = some y := by
    intro p y hy
    rw [hfi, if_neg]
    · exact hy
    · rintro rfl; rw [hn] at hy; cases hy
  refine ⟨by rw [ins_length]; omega, ?_, ?_, h.asc.ins x hn, ?_⟩
  · obtain ⟨r, hr, h0⟩ := h.root
    exact ⟨r, key _ _ hr, h0⟩
  · intro n hn'
    rcases mem_ins.1 hn' with rfl | k
    · exact hf
    · exact h.fit n k
  · intro n hn' hne
    have : lies l n = true := by
      rcases mem_ins.1 hn' with rfl | k
      · exact hl
      · exact h.lie n k hne
    obtain ⟨u, y, h1, h2, h3⟩ := lies_some this
    exact lies_of h1 (key _ _ h2) h3

/-- What goes is nobody's parent, nor the root. -/
theorem Tr.filter {l : List Nd} (h : Tr l) (q : Nd → Bool) (hr : ∀ n ∈ l, n.path = [47] → q n = true) (hp : ∀ n ∈ l, ∀ m ∈ l, parent n.path = some m.path → q n = true → q m = true) : Tr (l.filter q) := by
  have hA := h.asc.filter q
  refine ⟨Nat.le_trans (List.length_filter_le _ _) h.most, ?_, ?_, hA, ?_⟩
  · obtain ⟨r, h1, h0⟩ := h.root
    obtain ⟨hm, e⟩ := find_mem h1
    refine ⟨r, ?_, h0⟩
    rw [find_iff hA]
    exact ⟨List.mem_filter.2 ⟨hm, hr r hm e⟩, e⟩
  · intro n hn; exact h.fit n (List.mem_filter.1 hn).1
  · intro n hn hne
    obtain ⟨hn1, hn2⟩ := List.mem_filter.1 hn
    obtain ⟨u, x, h1, h2, h3⟩ := lies_some (h.lie n hn1 hne)
    obtain ⟨hxm, rfl⟩ := find_mem h2
    refine lies_of h1 ?_ h3
    rw [find_iff hA]
    exact ⟨List.mem_filter.2 ⟨hxm, hp n hn1 x hxm h1 hn2⟩, rfl⟩

theorem mem_kids {l : List Nd} {p : Bs} {n : Nd} : n ∈ kids l p ↔ n ∈ l ∧ parent n.path = some p := by
  unfold kids; rw [List.mem_filter]; simp

/-- May it be: what is known then. -/
theorem may_split {o : Opn} (h : may o = true) : (split o.path).isSome = true := by
  unfold may at h; simp only [Bool.and_eq_true] at h; exact h.1.1
theorem may_own {o : Opn} (h : may o = true) : o.data.length ≤ 256 ∧ 0 ≤ o.own ∧ o.own ≤ 1099511627776 := by
  unfold may at h; simp only [Bool.and_eq_true, decide_eq_true_eq] at h; exact h.1.2
theorem may_kind {o : Opn} (h : may o = true) : o.kind = 1 ∨ o.kind = 2 ∨ o.kind = 3 ∨ o.kind = 4 ∨ o.kind = 5 ∨ o.kind = 6 ∨ o.kind = 7 := by
  unfold may at h; simp only [Bool.and_eq_true] at h
  have := h.2
  split at this
  · exact .inl ‹_›
  split at this
  · exact .inr (.inl ‹_›)
  split at this
  · exact .inr (.inr (.inl ‹_›))
  split at this
  · exact .inr (.inr (.inr (.inl ‹_›)))
  split at this
  · rename_i k; rcases k with k | k
    · exact .inr (.inr (.inr (.inr (.inl k))))
    · exact .inr (.inr (.inr (.inr (.inr (.inl k)))))
  split at this
  · exact .inr (.inr (.inr (.inr (.inr (.inr ‹_›)))))
  · cases this
theorem may_parent {o : Opn} (h : may o = true) (hk : o.kind = 1 ∨ o.kind = 2) : ∃ u, parent o.path = some u := by
  cases hp : parent o.path with
  | some u => exact ⟨u, rfl⟩
  | none =>
    have h1 := (parent_none hp).1
    rw [may_split h] at h1
    have h2 : o.path = [47] := by simpa using h1.symm
    unfold may at h
    rcases hk with hk | hk <;> simp [hk, h2] at h

/-- A path by its parent's turn: its parent. -/
theorem named_parent {o : Opn} {u p : Bs} {t : Int} (hu : parent o.path = some u) (h : named o u t = some p) : parent p = some u := by
  unfold named at h
  split at h
  · cases hn : numbered (last o.path) t with
    | none => rw [hn] at h; cases h
    | some q =>
      rw [hn] at h
      obtain ⟨_, _, h1, _, _⟩ := join_some (show join u q = some p from h)
      exact h1
  · rw [← Option.some.inj h]; exact hu
theorem parent_ne_root {p u : Bs} (h : parent p = some u) : p ≠ [47] := by rintro rfl; cases h

theorem numbered_turn {p q : Bs} {t : Int} (h : numbered p t = some q) : 0 ≤ t ∧ t ≤ 9999 := by
  unfold numbered at h; split at h
  · rename_i k; exact ⟨k.1, k.2.1⟩
  · cases h

/-- A creation that is done. -/
structure Made (l : List Nd) (o : Opn) (a : List Nd) (r : Res) : Prop where
  ex : ∃ u x p, parent o.path = some u ∧ find l u = some x ∧ x.own = 0 ∧ named o u x.turn = some p ∧ find l p = none ∧ l.length < 512 ∧ parent p = some u ∧
    a = ins (if o.turns = true then l.set (place l u) { x with turn := x.turn + 1 } else l) (place l p) ⟨p, o.data, 0, 0, o.own⟩ ∧ r = ⟨0, p, [], 0, []⟩

theorem create_ways {l : List Nd} {o : Opn} (h : may o = true) (hk : o.kind = 1) (hm : l.length ≤ 512) :
    ((create l o).1 = l ∧ ∃ e, (create l o).2 = .bad e ∧ e ≠ 0 ∧ e ≠ 1) ∨ Made l o (create l o).1 (create l o).2 := by
  obtain ⟨u, hu⟩ := may_parent h (.inl hk)
  unfold create
  simp only [hu, Option.getD_some]
  cases hf : find l u with
  | none => exact .inl ⟨rfl, _, rfl, by decide, by decide⟩
  | some x =>
    simp only
    by_cases h0 : x.own = 0
    · rw [if_neg (by simpa using h0)]
      cases hn : named o u x.turn with
      | none => exact .inl ⟨rfl, _, rfl, by decide, by decide⟩
      | some p =>
        simp only
        by_cases hp : (find l p).isSome = true
        · rw [if_pos hp]; exact .inl ⟨rfl, _, rfl, by decide, by decide⟩
        · rw [if_neg hp]
          by_cases hl : l.length = 512
          · rw [if_pos hl]; exact .inl ⟨rfl, _, rfl, by decide, by decide⟩
          · rw [if_neg hl]
            exact .inr ⟨u, x, p, hu, hf, h0, hn, by simpa using hp, by omega, named_parent hu hn, rfl, rfl⟩
    · rw [if_pos h0]; exact .inl ⟨rfl, _, rfl, by decide, by decide⟩

theorem place_set {l : List Nd} {i : Nat} (hi : i < l.length) (y : Nd) (h : y.path = l[i].path) (p : Bs) : place (l.set i y) p = place l p := by
  unfold place
  induction l generalizing i with
  | nil => simp at hi
  | cons a l ih =>
    cases i with
    | zero => rw [List.set_cons_zero, List.countP_cons, List.countP_cons, h]; rfl
    | succ i => rw [List.set_cons_succ, List.countP_cons, List.countP_cons, ih (by simpa using hi) h]

/-- In between: the parent, with its turn one more, or as it was. -/
theorem Tr.turned {l : List Nd} (h : Tr l) {o : Opn} {u p : Bs} {x : Nd} (hx : find l u = some x) (h0 : x.own = 0) (hn : named o u x.turn = some p) :
    Tr (if o.turns = true then l.set (place l u) { x with turn := x.turn + 1 } else l) := by
  split
  · rename_i ht
    obtain ⟨hk, e⟩ := find_at h.asc hx
    have hf := (fits_iff x).1 (h.fit x (find_mem hx).1)
    unfold named at hn
    rw [if_pos ht] at hn
    cases hq : numbered (last o.path) x.turn with
    | none => rw [hq] at hn; cases hn
    | some q =>
      have := numbered_turn hq
      refine h.set hk _ (by rw [e]) (by rw [e]) ?_
      rw [fits_iff]; simp only; omega
  · exact h
theorem turned_facts {l : List Nd} (h : Tr l) {o : Opn} {u : Bs} {x : Nd} (hx : find l u = some x) :
    (∀ p, find (if o.turns = true then l.set (place l u) { x with turn := x.turn + 1 } else l) p = if o.turns = true ∧ p = u then some { x with turn := x.turn + 1 } else find l p) ∧
    (∀ p, place (if o.turns = true then l.set (place l u) { x with turn := x.turn + 1 } else l) p = place l p) ∧
    (if o.turns = true then l.set (place l u) { x with turn := x.turn + 1 } else l).length = l.length := by
  obtain ⟨hk, e⟩ := find_at h.asc hx
  have hp := (find_mem hx).2
  split
  · rename_i ht
    refine ⟨fun p => ?_, fun p => place_set hk _ (by rw [e]) p, List.length_set ..⟩
    rw [find_set h.asc hk _ (by rw [e])]
    simp [ht, hp]
  · rename_i ht
    exact ⟨fun p => by simp [ht], fun p => rfl, rfl⟩

theorem Made.tr {l : List Nd} {o : Opn} {a : List Nd} {r : Res} (h : Tr l) (hmay : may o = true) (m : Made l o a r) : Tr a := by
  obtain ⟨u, x, p, hu, hx, h0, hn, hp, hl, hpu, rfl, rfl⟩ := m.ex
  have hT := h.turned hx h0 hn
  obtain ⟨f1, f2, f3⟩ := turned_facts (o := o) h hx
  have hup : p ≠ u := fun e => by have := parent_lt hpu; rw [e, lt_irrefl] at this; cases this
  rw [← f2 p]
  refine hT.ins ⟨p, o.data, 0, 0, o.own⟩ ?_ ?_ ?_ (by rw [f3]; exact hl)
  · rw [f1, if_neg (fun k => hup k.2)]; exact hp
  · by_cases ht : o.turns = true
    · exact lies_of (x := { x with turn := x.turn + 1 }) hpu (by rw [f1, if_pos ⟨ht, rfl⟩]) h0
    · exact lies_of hpu (by rw [f1, if_neg (fun k => ht k.1)]; exact hx) h0
  · have := may_own hmay; rw [fits_iff]; refine ⟨this.1, Int.le_refl 0, ?_, Int.le_refl 0, ?_, this.2.1, this.2.2, .inr rfl⟩
    · show (0 : Int) ≤ _; decide
    · show (0 : Int) ≤ _; decide

theorem filter_erase {l : List Nd} (h : Asc l) {p : Bs} {x : Nd} (hx : find l p = some x) : l.eraseIdx (place l p) = l.filter (fun n => n.path != p) := by
  obtain ⟨hk, e⟩ := find_at h hx
  exact (erase_eq h hk (by rw [e]; exact (find_mem hx).2)).symm

theorem doit_tr {l : List Nd} {o : Opn} {x : Nd} (h : Tr l) (hmay : may o = true) (hk : o.kind ≠ 1) (hx : find l o.path = some x) : Tr (doit l o x).1 := by
  unfold doit
  split
  · rename_i k2
    split
    · rename_i hc
      show Tr (l.eraseIdx (place l o.path))
      rw [filter_erase h.asc hx]
      obtain ⟨u, hu⟩ := may_parent hmay (.inr k2)
      refine h.filter _ (fun n _ e => ?_) (fun n hn m hm e _ => ?_)
      · simp only [bne_iff_ne]; rw [e]; exact fun k => parent_ne_root hu k.symm
      · simp only [bne_iff_ne]; intro k
        have : n ∈ kids l o.path := mem_kids.2 ⟨hn, by rw [e, k]⟩
        rw [hc] at this; simp at this
    · exact h
  split
  · split
    · exact h
    · rename_i k3 hv
      obtain ⟨hk, e⟩ := find_at h.asc hx
      have hf := (fits_iff x).1 (h.fit x (find_mem hx).1)
      have := may_own hmay
      refine h.set hk _ (by rw [e]) (by rw [e]) ?_
      rw [fits_iff]; simp only; omega
  split
  · exact h
  split
  · exact h
  split
  · exact h
  · rename_i k2 k3 k4 k5 k6
    have k7 : o.kind = 7 := by have := may_kind hmay; omega
    have hown : o.own ≠ 0 := by
      unfold may at hmay; simp only [Bool.and_eq_true] at hmay
      have := hmay.2
      simp [k7] at this; omega
    refine h.filter _ (fun n hn e => ?_) (fun n hn m hm e _ => ?_)
    · simp only [swept, e, parent_root, Bool.not_eq_true', Bool.and_eq_false_iff]; right; rfl
    · have hne : n.path ≠ [47] := parent_ne_root e
      obtain ⟨v, y, h1, h2, h3⟩ := lies_some (h.lie n hn hne)
      rw [e] at h1
      obtain rfl := Option.some.inj h1
      have := find_of h.asc hm
      rw [h2] at this
      obtain rfl := Option.some.inj this
      simp only [swept, Bool.not_eq_true', Bool.and_eq_false_iff]; left
      rw [h3]; simpa using fun k => hown k.symm

theorem perform_tr {l : List Nd} {o : Opn} (h : Tr l) (hmay : may o = true) : Tr (perform l o).1 := by
  unfold perform
  split
  · rename_i k
    rcases create_ways hmay k h.most with ⟨e, _⟩ | m
    · rw [e]; exact h
    · exact m.tr h hmay
  · rename_i k
    split
    · exact h
    · rename_i x hx
      split
      · exact h
      · exact doit_tr h hmay k hx

end Pm
end Go.Proofs.Ytlmfinpmlilcgaa

/- Plain lists: what the laws of layer 6 say of operations. Nothing of the program. -/
namespace Go.Proofs.Ytlmfinpmlilcgaa
set_option maxRecDepth 20000
namespace Pm

theorem Tr.valid {l : List Nd} (h : Tr l) {n : Nd} (hn : n ∈ l) : ∃ ps, split n.path = some ps := by
  by_cases e : n.path = [47]
  · rw [e]; exact ⟨[], rfl⟩
  · obtain ⟨u, x, h1, _, _⟩ := lies_some (h.lie n hn e)
    obtain ⟨ps, hs, _⟩ := parent_some h1
    exact ⟨ps, hs⟩
theorem Tr.refl {l : List Nd} (h : Tr l) {n : Nd} (hn : n ∈ l) : inB n.path n.path = true := by
  obtain ⟨ps, hs⟩ := h.valid hn; exact in_refl hs
theorem parent_in {p u : Bs} (h : parent p = some u) : inB p u = true := by
  obtain ⟨_, _, _, _, _, _, h1, _⟩ := parent_some h; exact h1

theorem apply_no {l : List Nd} {o : Opn} (h : ¬ (right l = true ∧ may o = true)) : apply l o = ([], .bad 1) := by
  unfold apply; rw [if_neg]; simpa [Bool.and_eq_true] using h
theorem apply_yes {l : List Nd} {o : Opn} (h : Tr l) (k : may o = true) : apply l o = perform l o := by
  unfold apply; rw [if_pos]; rw [right_true h.tree, k]; rfl

/-- An error, and what is there then. -/
theorem perform_err {l : List Nd} {o : Opn} (h : Tr l) (hm : may o = true) : (perform l o).2.err ≠ 1 ∧ ((perform l o).2.err ≠ 0 → (perform l o).1 = l ∧ (perform l o).2 = .bad (perform l o).2.err) := by
  unfold perform
  split
  · rename_i k
    rcases create_ways hm k h.most with ⟨e, c, e2, c0, c1⟩ | m
    · rw [e, e2]; exact ⟨c1, fun _ => ⟨rfl, rfl⟩⟩
    · obtain ⟨u, x, p, hu, hx, h0, hn, hp, hl, hpu, ha, hr⟩ := m.ex
      rw [hr]; exact ⟨by simp, fun k => absurd rfl k⟩
  · split
    · exact ⟨by simp [Res.bad], fun _ => ⟨rfl, rfl⟩⟩
    · split
      · exact ⟨by simp [Res.bad], fun _ => ⟨rfl, rfl⟩⟩
      · unfold doit
        split
        · split
          · exact ⟨by simp, fun k => absurd rfl k⟩
          · exact ⟨by simp [Res.bad], fun _ => ⟨rfl, rfl⟩⟩
        split
        · split
          · exact ⟨by simp [Res.bad], fun _ => ⟨rfl, rfl⟩⟩
          · exact ⟨by simp, fun k => absurd rfl k⟩
        split
        · exact ⟨by simp, fun k => absurd rfl k⟩
        split
        · exact ⟨by simp, fun k => absurd rfl k⟩
        split
        · exact ⟨by simp, fun k => absurd rfl k⟩
        · exact ⟨by simp, fun k => absurd rfl k⟩
theorem perform_looks {l : List Nd} {o : Opn} (hk : o.kind = 4 ∨ o.kind = 5 ∨ o.kind = 6) : (perform l o).1 = l := by
  unfold perform
  rw [if_neg (by omega)]
  split
  · rfl
  · split
    · rfl
    · unfold doit
      rcases hk with k | k | k <;> simp [k]

theorem Made.find {l : List Nd} {o : Opn} {a : List Nd} {r : Res} (h : Tr l) (m : Made l o a r) {u p : Bs} (hu : parent o.path = some u) (hr : r.path = p) (q : Bs) :
    find a q = if q = p then some ⟨p, o.data, 0, 0, o.own⟩ else if o.turns = true ∧ q = u then (find l u).map (fun x => { x with turn := x.turn + 1 }) else find l q := by
  obtain ⟨u', x, p', hu', hx, h0, hn, hp, hl, hpu, rfl, rfl⟩ := m.ex
  rw [hu] at hu'; obtain rfl := Option.some.inj hu'
  obtain rfl : p' = p := hr
  have hT := h.turned hx h0 hn
  obtain ⟨f1, f2, f3⟩ := turned_facts (o := o) h hx
  have hup : p' ≠ u := fun e => by have := parent_lt hpu; rw [e, lt_irrefl] at this; cases this
  have := find_ins hT.asc ⟨p', o.data, 0, 0, o.own⟩ (by rw [f1, if_neg (fun k => hup k.2)]; exact hp) q
  rw [f2] at this
  rw [this, f1, hx]; rfl

/-- What lies elsewhere stays. -/
theorem perform_stays {l : List Nd} {o : Opn} (h : Tr l) (hm : may o = true) {n : Nd} (hn : n ∈ l) (h1 : inB n.path o.path = false) (h2 : n.path ≠ (parent o.path).getD []) :
    find (perform l o).1 n.path = some n := by
  have hf := find_of h.asc hn
  have hne : n.path ≠ o.path := fun e => by have := h.refl hn; rw [e] at this; rw [e, this] at h1; cases h1
  unfold perform
  split
  · rename_i k
    obtain ⟨u, hu⟩ := may_parent hm (.inl k)
    rw [hu] at h2
    rcases create_ways hm k h.most with ⟨e, _⟩ | m
    · rw [e]; exact hf
    · have hm' := m
      obtain ⟨u', x, p, hu', hx, h0, hnm, hp, hl, hpu, ha, hr⟩ := m.ex
      rw [hm'.find h hu (by rw [hr]), if_neg, if_neg (fun k => h2 k.2), hf]
      rintro rfl; rw [hf] at hp; cases hp
  · split
    · exact hf
    · rename_i x hx
      split
      · exact hf
      · unfold doit
        split
        · split
          · show find (l.eraseIdx (place l o.path)) n.path = some n
            rw [filter_erase h.asc hx, find_iff (h.asc.filter _)]
            exact ⟨List.mem_filter.2 ⟨hn, by simpa using hne⟩, rfl⟩
          · exact hf
        split
        · split
          · exact hf
          · obtain ⟨hk, e⟩ := find_at h.asc hx
            show find (l.set _ _) n.path = some n
            rw [find_set h.asc hk _ (by rw [e]), if_neg]
            · exact hf
            · rw [(find_mem hx).2]; exact hne
        split
        · exact hf
        split
        · exact hf
        split
        · exact hf
        · show find (l.filter _) n.path = some n
          rw [find_iff (h.asc.filter _)]
          refine ⟨List.mem_filter.2 ⟨hn, ?_⟩, rfl⟩
          cases hs : swept o n with
          | false => rfl
          | true =>
            unfold swept at hs
            simp only [Bool.and_eq_true, beq_iff_eq] at hs
            rw [parent_in hs.2] at h1; cases h1

theorem erase_ins (l : List Nd) (k : Nat) (hk : k ≤ l.length) (x : Nd) : (ins l k x).eraseIdx k = l := by
  unfold ins
  rw [List.eraseIdx_append_of_length_le (by rw [List.length_take]; omega), List.length_take, Nat.min_eq_left hk, Nat.sub_self, List.eraseIdx_cons_zero, List.take_append_drop]
theorem ins_at (l : List Nd) (k : Nat) (hk : k ≤ l.length) (x : Nd) (h : k < (ins l k x).length) : (ins l k x)[k] = x := by
  have e : (ins l k x)[k]? = some x := by
    unfold ins
    rw [List.getElem?_append_right (by rw [List.length_take]; omega), List.length_take, Nat.min_eq_left hk, Nat.sub_self]; rfl
  rw [List.getElem?_eq_getElem h] at e; exact Option.some.inj e

def delOp (p : Bs) : Opn := ⟨2, p, [], 0, 0, false⟩

/-- Created, and taken away again. -/
theorem both {l : List Nd} {o : Opn} {a : List Nd} {r : Res} (h : Tr l) (hm : may o = true) (m : Made l o a r) :
    ∃ u x b, parent o.path = some u ∧ find l u = some x ∧ find a r.path = some ⟨r.path, o.data, 0, 0, o.own⟩ ∧ apply a (delOp r.path) = (b, ⟨0, [], [], 0, []⟩) ∧ find b r.path = none ∧
      b = (if o.turns = true then l.set (place l u) { x with turn := x.turn + 1 } else l) ∧ r.path.length ≤ 100 ∧ r.err = 0 := by
  have hT2 := m.tr h hm
  have m' := m
  obtain ⟨u, x, p, hu, hx, h0, hnm, hp, hl, hpu, ha, hr⟩ := m.ex
  have hT := h.turned hx h0 hnm
  obtain ⟨f1, f2, f3⟩ := turned_facts (o := o) h hx
  have hup : p ≠ u := fun e => by have := parent_lt hpu; rw [e, lt_irrefl] at this; cases this
  generalize ht : (if o.turns = true then l.set (place l u) { x with turn := x.turn + 1 } else l) = t at ha hT f1 f2 f3
  have hrp : r.path = p := by rw [hr]
  have hfa : find a p = some ⟨p, o.data, 0, 0, o.own⟩ := by rw [m'.find h hu hrp, if_pos rfl]
  obtain ⟨ps, hs, _, _, _, hlen, _⟩ := parent_some hpu
  have hmd : may (delOp p) = true := by
    unfold may delOp
    have := parent_ne_root hpu
    simp only [hs, Option.isSome_some]
    simp [this]
  have hpl : place a p = place l p := by
    have hk := place_le t p
    rw [f2] at hk
    have hk2 : place l p < a.length := by rw [ha, ins_length]; omega
    have := place_at hT2.asc hk2
    have e : (a[place l p]).path = p := by
      have : a[place l p] = ⟨p, o.data, 0, 0, o.own⟩ := by subst ha; exact ins_at t _ hk _ hk2
      rw [this]
    rwa [e] at this
  have hkids : kids a p = [] := by
    rw [List.eq_nil_iff_forall_not_mem]
    intro n hn
    obtain ⟨hn1, hn2⟩ := mem_kids.1 hn
    rw [ha, mem_ins] at hn1
    rcases hn1 with rfl | hn1
    · rw [hpu] at hn2; exact hup (Option.some.inj hn2).symm
    · have hne : n.path ≠ [47] := parent_ne_root hn2
      obtain ⟨v, y, k1, k2, k3⟩ := lies_some (hT.lie n hn1 hne)
      rw [hn2] at k1; obtain rfl := Option.some.inj k1
      rw [f1, if_neg (fun k => hup k.2), hp] at k2; cases k2
  have hb : a.eraseIdx (place a p) = t := by
    rw [hpl, ha]; exact erase_ins t _ (by have := place_le t p; rwa [f2] at this) _
  refine ⟨u, x, t, hu, hx, by rw [hrp]; exact hfa, ?_, ?_, ht.symm, by rw [hrp]; exact hlen, by rw [hr]⟩
  · rw [hrp, apply_yes hT2 hmd]
    unfold perform
    rw [if_neg (by simp [delOp])]
    show (match find a p with | none => _ | some x => _) = _
    rw [hfa]
    simp only
    rw [if_neg (by simp [delOp])]
    unfold doit
    rw [if_pos (by rfl)]
    show (if kids a p = [] then _ else _) = _
    rw [if_pos hkids]
    show (a.eraseIdx (place a p), _) = _
    rw [hb]
  · rw [hrp, f1, if_neg (fun k => hup k.2)]; exact hp

/-- .. of which each is as it was. -/
theorem turned_at {l : List Nd} (h : Tr l) {o : Opn} {u : Bs} {x : Nd} (hx : find l u = some x) (i : Nat) (hi : i < l.length)
    (hi' : i < (if o.turns = true then l.set (place l u) { x with turn := x.turn + 1 } else l).length) :
    ((if o.turns = true then l.set (place l u) { x with turn := x.turn + 1 } else l)[i] = if o.turns = true ∧ l[i].path = u then { l[i] with turn := l[i].turn + 1 } else l[i]) := by
  obtain ⟨hk, e⟩ := find_at h.asc hx
  have hp := (find_mem hx).2
  obtain ⟨ok, op, od, ov, oo, ot⟩ := o
  cases ot with
  | true =>
    simp only [if_true, true_and]
    rw [List.getElem_set]
    split
    · rename_i k; subst k
      rw [e, if_pos hp]
    · rename_i k
      refine (if_neg ?_).symm
      intro e2
      exact k (h.asc.inj hk hi (by rw [e, hp, e2]))
  | false => simp

def sweepOp (p : Bs) (w : Int) : Opn := ⟨7, p, [], 0, w, false⟩
def listOp (p : Bs) : Opn := ⟨6, p, [], 0, 0, false⟩

theorem sweep_ways (l : List Nd) (p : Bs) (w : Int) : perform l (sweepOp p w) = (l, .bad 62) ∧ find l p = none ∨
    (∃ x, find l p = some x) ∧ perform l (sweepOp p w) = (l.filter (fun n => !swept (sweepOp p w) n), ⟨0, [], [], 0, (l.filter (swept (sweepOp p w))).map (fun n => last n.path)⟩) := by
  unfold perform
  rw [if_neg (by simp [sweepOp])]
  show (match find l p with | none => _ | some x => _) = _ ∧ _ ∨ _
  cases hf : find l p with
  | none => exact .inl ⟨rfl, rfl⟩
  | some x =>
    refine .inr ⟨⟨x, rfl⟩, ?_⟩
    show (match find l p with | none => _ | some x => _) = _
    rw [hf]
    simp [sweepOp, doit, versioned]

theorem sweep_find {l : List Nd} (h : Tr l) (p : Bs) (w : Int) {n : Nd} (hn : n ∈ l) : (find (l.filter (fun n => !swept (sweepOp p w) n)) n.path).isSome = !swept (sweepOp p w) n := by
  cases hs : swept (sweepOp p w) n with
  | false =>
    rw [(find_iff (h.asc.filter _)).2 ⟨List.mem_filter.2 ⟨hn, by rw [hs]; rfl⟩, rfl⟩]; rfl
  | true =>
    have : find (l.filter (fun n => !swept (sweepOp p w) n)) n.path = none := by
      rw [find_none]
      intro x hx e
      obtain ⟨h1, h2⟩ := List.mem_filter.1 hx
      have := find_of h.asc h1
      rw [e, find_of h.asc hn] at this
      obtain rfl := Option.some.inj this
      rw [hs] at h2; cases h2
    rw [this]; rfl

/-- In what somebody owns nothing lies. -/
theorem kids_owned {l : List Nd} (h : Tr l) {n : Nd} (hn : n ∈ l) (h0 : n.own ≠ 0) : kids l n.path = [] := by
  rw [List.eq_nil_iff_forall_not_mem]
  intro m hm
  obtain ⟨h1, h2⟩ := mem_kids.1 hm
  obtain ⟨v, y, k1, k2, k3⟩ := lies_some (h.lie m h1 (parent_ne_root h2))
  rw [h2] at k1; obtain rfl := Option.some.inj k1
  rw [find_of h.asc hn] at k2
  obtain rfl := Option.some.inj k2
  exact h0 k3

theorem may_sweep {p : Bs} {w : Int} (h : may (sweepOp p w) = true) : 0 < w := by
  unfold may sweepOp at h; simp at h; omega

/-- Once more it takes away nothing. -/
theorem sweep_twice {l : List Nd} (h : Tr l) (p : Bs) (w : Int) (hm : may (sweepOp p w) = true) {x : Nd} (hx : find l p = some x) :
    ∃ a, apply (l.filter (fun n => !swept (sweepOp p w) n)) (sweepOp p w) = (a, ⟨0, [], [], 0, []⟩) := by
  have hT : Tr (l.filter (fun n => !swept (sweepOp p w) n)) := by
    have := perform_tr h hm
    rcases sweep_ways l p w with ⟨_, e⟩ | ⟨_, e⟩
    · rw [hx] at e; cases e
    · rw [e] at this; exact this
  rw [apply_yes hT hm]
  rcases sweep_ways (l.filter (fun n => !swept (sweepOp p w) n)) p w with ⟨_, e⟩ | ⟨_, e⟩
  ·
    have := sweep_find h p w (find_mem hx).1
    rw [(find_mem hx).2, e] at this
    simp only [Option.isSome_none] at this
    have hs : swept (sweepOp p w) x = true := by simpa using this.symm
    unfold swept at hs
    simp only [Bool.and_eq_true, beq_iff_eq] at hs
    have := parent_lt hs.2
    rw [(find_mem hx).2] at this
    rw [show (sweepOp p w).path = p from rfl, lt_irrefl] at this; cases this
  · rw [e]
    refine ⟨_, Prod.ext rfl ?_⟩
    show Res.mk 0 [] [] 0 _ = _
    congr 1
    rw [List.filter_filter, List.filter_eq_nil_iff.2]
    · rfl
    · intro n _; cases swept (sweepOp p w) n <;> simp

/-- Names below one parent rise as their paths. -/
theorem join_pre {u q c : Bs} (h : join u q = some c) : ∃ ps, split u = some ps ∧ c = joinP (ps ++ [q]) := by
  unfold join at h
  split at h
  · rename_i ps hs
    split at h
    · exact ⟨ps, hs, (Option.some.inj h).symm⟩
    · cases h
  · cases h
def pre : List Bs → Bs
  | [] => [47]
  | p :: r => flat (p :: r) ++ [47]
theorem joinP_snoc (ps : List Bs) (q : Bs) : joinP (ps ++ [q]) = pre ps ++ q := by
  cases ps with
  | nil => rw [List.nil_append, joinP_cons, flat_cons, flat_nil]; simp [pre]
  | cons p r =>
    rw [List.cons_append, joinP_cons, pre, ← List.cons_append]
    have : flat (p :: r ++ [q]) = flat (p :: r) ++ 47 :: (q ++ []) := by unfold flat; rw [List.map_append, List.flatten_append]; simp
    rw [this]; simp
theorem lt_last {a b u : Bs} (ha : parent a = some u) (hb : parent b = some u) : lt (last a) (last b) = lt a b := by
  obtain ⟨_, _, ja, _⟩ := parent_some ha
  obtain ⟨_, _, jb, _⟩ := parent_some hb
  obtain ⟨ps, hs, ea⟩ := join_pre ja
  obtain ⟨qs, hs2, eb⟩ := join_pre jb
  rw [hs] at hs2; obtain rfl := Option.some.inj hs2
  rw [joinP_snoc] at ea eb
  generalize last a = x at *
  generalize last b = y at *
  rw [ea, eb, lt_append]

theorem may_list (p : Bs) : may (listOp p) = (split p).isSome := by unfold may listOp; simp
theorem list_ways {l : List Nd} (h : Tr l) (p : Bs) : (apply l (listOp p) = ([], .bad 1) ∧ split p = none) ∨ (apply l (listOp p) = (l, .bad 62) ∧ find l p = none) ∨
    (apply l (listOp p) = (l, ⟨0, [], [], 0, (kids l p).map (fun n => last n.path)⟩) ∧ (find l p).isSome = true) := by
  by_cases hm : may (listOp p) = true
  · rw [apply_yes h hm]
    unfold perform
    rw [if_neg (by simp [listOp])]
    show _ ∨ ((match find l p with | none => _ | some x => _) = _ ∧ _) ∨ ((match find l p with | none => _ | some x => _) = _ ∧ _)
    cases hf : find l p with
    | none => exact .inr (.inl ⟨rfl, rfl⟩)
    | some x => exact .inr (.inr ⟨by simp [listOp, doit, versioned], rfl⟩)
  · refine .inl ⟨apply_no (fun k => hm k.2), ?_⟩
    rw [may_list] at hm; simpa using hm

theorem kids_names (l : List Nd) (p : Bs) (i : Nat) (hi : i < (kids l p).length) : ∃ q, join p (last (kids l p)[i].path) = some q ∧ (find l q).isSome = true ∧ q.length ≤ 100 := by
  obtain ⟨h1, h2⟩ := mem_kids.1 (List.getElem_mem hi)
  obtain ⟨_, _, j, _, _, hl, _⟩ := parent_some h2
  exact ⟨_, j, find_isSome.2 ⟨_, h1, rfl⟩, hl⟩
theorem kids_rise {l : List Nd} (h : Tr l) (p : Bs) (i : Nat) (hi : i + 1 < (kids l p).length) : lt (last (kids l p)[i].path) (last (kids l p)[i+1].path) = true := by
  obtain ⟨_, h1⟩ := mem_kids.1 (List.getElem_mem (show i < (kids l p).length by omega))
  obtain ⟨_, h2⟩ := mem_kids.1 (List.getElem_mem hi)
  rw [lt_last h1 h2]
  exact (h.asc.filter _) i (i + 1) (by unfold kids at hi; omega) (by unfold kids at hi; exact hi) (by omega)

/-- Versions. -/
def setOp (p d : Bs) (v : Int) : Opn := ⟨3, p, d, v, 0, false⟩
def checkOp (p : Bs) (v : Int) : Opn := ⟨4, p, [], v, 0, false⟩
def getOp (p : Bs) : Opn := ⟨5, p, [], 0, 0, false⟩

theorem versions {l : List Nd} (h : Tr l) {p d : Bs} {x : Nd} (hx : find l p = some x) (h0 : 0 ≤ x.ver) (h1 : x.ver ≤ 2000) (hd : d.length ≤ 256) :
    ∃ k, apply l (setOp p d (x.ver + 1)) = (l, .bad 63) ∧ apply l (checkOp p (x.ver + 1)) = (l, .bad 63) ∧ apply l (setOp p d x.ver) = (k, ⟨0, [], [], x.ver + 1, []⟩) ∧
      apply k (getOp p) = (k, ⟨0, [], d, x.ver + 1, []⟩) ∧ Tr k ∧ find k p = some { x with data := d, ver := x.ver + 1 } ∧ k.length = l.length := by
  obtain ⟨hk, e⟩ := find_at h.asc hx
  have hp := (find_mem hx).2
  obtain ⟨ps, hs⟩ := h.valid (find_mem hx).1
  rw [hp] at hs
  have m1 : may (setOp p d (x.ver + 1)) = true := by unfold may setOp; simp [hs]; omega
  have m2 : may (setOp p d x.ver) = true := by unfold may setOp; simp [hs]; omega
  have m3 : may (checkOp p (x.ver + 1)) = true := by unfold may checkOp; simp [hs]; omega
  have m4 : may (getOp p) = true := by unfold may getOp; simp [hs]
  have e2 : perform l (setOp p d x.ver) = (l.set (place l p) { x with data := d, ver := x.ver + 1 }, ⟨0, [], [], x.ver + 1, []⟩) := by
    unfold perform
    rw [if_neg (by simp [setOp])]
    show (match find l p with | none => _ | some x => _) = _
    rw [hx]
    have : ¬ x.ver = 281474976710656 := by omega
    simp [setOp, doit, versioned, this]
  have hT : Tr (l.set (place l p) { x with data := d, ver := x.ver + 1 }) := by have := perform_tr h m2; rw [e2] at this; exact this
  have hf : find (l.set (place l p) { x with data := d, ver := x.ver + 1 }) p = some { x with data := d, ver := x.ver + 1 } := by
    rw [find_set h.asc hk _ (by rw [e]), if_pos hp.symm]
  refine ⟨_, ?_, ?_, by rw [apply_yes h m2, e2], ?_, hT, hf, List.length_set ..⟩
  · rw [apply_yes h m1]
    unfold perform
    rw [if_neg (by simp [setOp])]
    show (match find l p with | none => _ | some x => _) = _
    rw [hx]
    have h3 : ¬ x.ver + 1 = -1 := by omega
    have h4 : ¬ x.ver + 1 = x.ver := by omega
    simp [setOp, versioned, h3, h4]
  · rw [apply_yes h m3]
    unfold perform
    rw [if_neg (by simp [checkOp])]
    show (match find l p with | none => _ | some x => _) = _
    rw [hx]
    have h3 : ¬ x.ver + 1 = -1 := by omega
    have h4 : ¬ x.ver + 1 = x.ver := by omega
    simp [checkOp, versioned, h3, h4]
  · rw [apply_yes hT m4]
    unfold perform
    rw [if_neg (by simp [getOp])]
    show (match find _ p with | none => _ | some x => _) = _
    rw [hf]
    simp [getOp, doit, versioned]

end Pm
end Go.Proofs.Ytlmfinpmlilcgaa

