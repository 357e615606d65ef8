/- Plain: holds of directories; what Right, Held, Take, Free, Dirs make of them. Nothing of the program. -/
import Derived.Test.YtenaggleepoclaaGreatPq
namespace Go.Proofs.YtenaggleepoclaaGreat
set_option maxRecDepth 20000
set_option linter.unusedVariables false
set_option linter.unusedSimpArgs false
namespace Pm

/-- The order of texts. -/
abbrev lt (a b : Bs) : Bool := Op.bytesLess a b
theorem lt_nil_right (a : Bs) : lt a [] = false := by cases a <;> rfl
theorem lt_cons (a b : UInt8) (x y : Bs) : lt (a :: x) (b :: y) = (decide (a < b) || (a == b && lt x y)) := rfl
theorem lt_irrefl : ∀ a : Bs, lt a a = false
  | [] => rfl
  | c :: a => by rw [lt_cons, lt_irrefl a]; simp
theorem lt_trans : ∀ {a b c : Bs}, lt a b = true → lt b c = true → lt a c = true
  | _, _, [], _, h => by rw [lt_nil_right] at h; cases h
  | _, [], _ :: _, h, _ => by rw [lt_nil_right] at h; cases h
  | [], _ :: _, _ :: _, _, _ => rfl
  | x :: a, y :: b, z :: c, h, k => by
    rw [lt_cons] at h k ⊢
    simp only [Bool.or_eq_true, Bool.and_eq_true, decide_eq_true_eq, beq_iff_eq] at h k ⊢
    rcases h with h | ⟨rfl, h⟩ <;> rcases k with k | ⟨rfl, k⟩
    · exact .inl (UInt8.lt_trans h k)
    · exact .inl h
    · exact .inl k
    · exact .inr ⟨rfl, lt_trans h k⟩
theorem lt_total : ∀ (a b : Bs), lt a b = false → lt b a = false → a = b
  | [], [], _, _ => rfl
  | [], _ :: _, h, _ => by cases h
  | _ :: _, [], _, h => by cases h
  | x :: a, y :: b, h, k => by
    rw [lt_cons] at h k
    simp only [Bool.or_eq_false_iff, Bool.and_eq_false_iff, decide_eq_false_iff_not, beq_eq_false_iff_ne] at h k
    have e : x = y := UInt8.le_antisymm (UInt8.not_lt.1 k.1) (UInt8.not_lt.1 h.1)
    subst e
    have h2 := h.2.resolve_left (fun f => f rfl)
    have k2 := k.2.resolve_left (fun f => f rfl)
    rw [lt_total a b h2 k2]
theorem lt_asymm {a b : Bs} (h : lt a b = true) : lt b a = false := by
  cases k : lt b a with
  | false => rfl
  | true => have := lt_trans h k; rw [lt_irrefl] at this; cases this
theorem lt_ne {a b : Bs} (h : lt a b = true) : a ≠ b := by
  rintro rfl; rw [lt_irrefl] at h; cases h
theorem lt_of {a b : Bs} (h : lt a b = false) (k : a ≠ b) : lt b a = true := by
  cases h2 : lt b a with
  | true => rfl
  | false => exact absurd (lt_total a b h h2) k
theorem lt_of_le_lt {a b c : Bs} (h : lt b a = false) (k : lt b c = true) : lt a c = true := by
  by_cases e : b = a
  · subst e; exact k
  · exact lt_trans (lt_of h e) k
theorem lt_le_trans {a b c : Bs} (h : lt a b = true) (k : lt c b = false) : lt a c = true := by
  by_cases e : c = b
  · subst e; exact h
  · exact lt_trans h (lt_of k e)

structure Hl where
  d : Bs
  t : Int
  a : Int
deriving DecidableEq

def mxN : Int := 281474976710656
def isN (n : Int) : Bool := decide (0 ≤ n ∧ n ≤ mxN)
def okP (p : Bs) : Bool := (split p).isSome
def okH (x : Hl) : Bool := okP x.d && isN x.t && isN x.a

/-- Lists that rise. -/
abbrev Up (l : List Bs) : Prop := l.Pairwise (fun a b => lt a b = true)
abbrev UpH (l : List Hl) : Prop := l.Pairwise (fun a b => lt a.d b.d = true)
abbrev UpI (l : List Int) : Prop := l.Pairwise (fun a b => a < b)
/-- Holds that are right. -/
structure RtH (l : List Hl) : Prop where
  ok : ∀ x ∈ l, okH x = true
  up : UpH l
  one : ∀ x ∈ l, ∀ y ∈ l, x.t = y.t → x.a = y.a
def rightH (l : List Hl) : Bool := decide ((∀ x ∈ l, okH x = true) ∧ UpH l ∧ ∀ x ∈ l, ∀ y ∈ l, x.t = y.t → x.a = y.a)
theorem right_iff (l : List Hl) : rightH l = true ↔ RtH l := by
  unfold rightH
  rw [decide_eq_true_eq]
  exact ⟨fun h => ⟨h.1, h.2.1, h.2.2⟩, fun h => ⟨h.ok, h.up, h.one⟩⟩

/-- Two lists that rise, of the same members, are one. -/
theorem up_unique {α : Type} {r : α → α → Prop} (irr : ∀ a, ¬ r a a) (tr : ∀ a b c, r a b → r b c → r a c) : ∀ {l m : List α}, l.Pairwise r → m.Pairwise r → (∀ x, x ∈ l ↔ x ∈ m) → l = m
  | [], [], _, _, _ => rfl
  | [], b :: m, _, _, h => by have := (h b).2 (by simp); cases this
  | a :: l, [], _, _, h => by have := (h a).1 (by simp); cases this
  | a :: l, b :: m, hl, hm, h => by
    rw [List.pairwise_cons] at hl hm
    have e : a = b := by
      rcases List.mem_cons.1 ((h a).1 (by simp)) with e | ha
      · exact e
      · rcases List.mem_cons.1 ((h b).2 (by simp)) with e | hb
        · exact e.symm
        · exact absurd (tr _ _ _ (hl.1 b hb) (hm.1 a ha)) (irr a)
    subst e
    refine congrArg (a :: ·) (up_unique irr tr hl.2 hm.2 fun x => ⟨fun hx => ?_, fun hx => ?_⟩)
    · rcases List.mem_cons.1 ((h x).1 (by simp [hx])) with e | h1
      · subst e; exact absurd (hl.1 x hx) (irr x)
      · exact h1
    · rcases List.mem_cons.1 ((h x).2 (by simp [hx])) with e | h1
      · subst e; exact absurd (hm.1 x hx) (irr x)
      · exact h1
theorem upB_unique {l m : List Bs} (hl : Up l) (hm : Up m) (h : ∀ x, x ∈ l ↔ x ∈ m) : l = m :=
  up_unique (r := fun a b => lt a b = true) (fun a h => by rw [lt_irrefl] at h; cases h) (fun _ _ _ h k => lt_trans h k) hl hm h
theorem upH_unique {l m : List Hl} (hl : UpH l) (hm : UpH m) (h : ∀ x, x ∈ l ↔ x ∈ m) : l = m :=
  up_unique (r := fun a b : Hl => lt a.d b.d = true) (fun a h => by rw [lt_irrefl] at h; cases h) (fun _ _ _ h k => lt_trans h k) hl hm h
theorem upI_unique {l m : List Int} (hl : UpI l) (hm : UpI m) (h : ∀ x, x ∈ l ↔ x ∈ m) : l = m :=
  up_unique (r := fun a b : Int => a < b) (fun a => by omega) (fun _ _ _ h k => by omega) hl hm h

/-- One more in its place: texts, holds, numbers. Each is what the document's loop makes: what lies below, it, what lies above. -/
def insB (l : List Bs) (s : Bs) : List Bs := l.filter (fun x => lt x s) ++ s :: l.filter (fun x => lt s x)
def insH (l : List Hl) (h : Hl) : List Hl := l.filter (fun x => lt x.d h.d) ++ h :: l.filter (fun x => lt h.d x.d)
def insI (l : List Int) (n : Int) : List Int := l.filter (fun x => decide (x < n)) ++ n :: l.filter (fun x => decide (n < x))
theorem mem_insB {l : List Bs} {s x : Bs} : x ∈ insB l s ↔ x ∈ l ∨ x = s := by
  unfold insB
  simp only [List.mem_append, List.mem_cons, List.mem_filter]
  constructor
  · rintro (⟨h, _⟩ | h | ⟨h, _⟩)
    · exact .inl h
    · exact .inr h
    · exact .inl h
  · rintro (h | h)
    · cases c : lt x s with
      | true => exact .inl ⟨h, rfl⟩
      | false =>
        cases c2 : lt s x with
        | true => exact .inr (.inr ⟨h, rfl⟩)
        | false => exact .inr (.inl (lt_total _ _ c c2))
    · exact .inr (.inl h)
theorem up_insB {l : List Bs} (s : Bs) (h : Up l) : Up (insB l s) := by
  unfold insB Up
  rw [List.pairwise_append, List.pairwise_cons]
  refine ⟨h.filter _, ⟨fun x hx => by simpa using (List.mem_filter.1 hx).2, h.filter _⟩, fun x hx y hy => ?_⟩
  have h1 : lt x s = true := by simpa using (List.mem_filter.1 hx).2
  rcases List.mem_cons.1 hy with rfl | hy
  · exact h1
  · exact lt_trans h1 (by simpa using (List.mem_filter.1 hy).2)
theorem mem_insI {l : List Int} {s x : Int} : x ∈ insI l s ↔ x ∈ l ∨ x = s := by
  unfold insI
  simp only [List.mem_append, List.mem_cons, List.mem_filter, decide_eq_true_eq]
  constructor
  · rintro (⟨h, _⟩ | h | ⟨h, _⟩)
    · exact .inl h
    · exact .inr h
    · exact .inl h
  · rintro (h | h)
    · rcases Int.lt_trichotomy x s with c | c | c
      · exact .inl ⟨h, c⟩
      · exact .inr (.inl c)
      · exact .inr (.inr ⟨h, c⟩)
    · exact .inr (.inl h)
theorem up_insI {l : List Int} (s : Int) (h : UpI l) : UpI (insI l s) := by
  unfold insI UpI
  rw [List.pairwise_append, List.pairwise_cons]
  refine ⟨h.filter _, ⟨fun x hx => by simpa using (List.mem_filter.1 hx).2, h.filter _⟩, fun x hx y hy => ?_⟩
  have h1 : x < s := by simpa using (List.mem_filter.1 hx).2
  rcases List.mem_cons.1 hy with rfl | hy
  · exact h1
  · have : s < y := by simpa using (List.mem_filter.1 hy).2
    omega
theorem up_insH {l : List Hl} (s : Hl) (h : UpH l) : UpH (insH l s) := by
  unfold insH UpH
  rw [List.pairwise_append, List.pairwise_cons]
  refine ⟨h.filter _, ⟨fun x hx => by simpa using (List.mem_filter.1 hx).2, h.filter _⟩, fun x hx y hy => ?_⟩
  have h1 : lt x.d s.d = true := by simpa using (List.mem_filter.1 hx).2
  rcases List.mem_cons.1 hy with rfl | hy
  · exact h1
  · exact lt_trans h1 (by simpa using (List.mem_filter.1 hy).2)
theorem mem_insH {l : List Hl} {s x : Hl} : x ∈ insH l s ↔ (x ∈ l ∧ x.d ≠ s.d) ∨ x = s := by
  unfold insH
  simp only [List.mem_append, List.mem_cons, List.mem_filter]
  constructor
  · rintro (⟨h, k⟩ | h | ⟨h, k⟩)
    · exact .inl ⟨h, lt_ne k⟩
    · exact .inr h
    · exact .inl ⟨h, Ne.symm (lt_ne k)⟩
  · rintro (⟨h, k⟩ | h)
    · cases c : lt x.d s.d with
      | true => exact .inl ⟨h, rfl⟩
      | false => exact .inr (.inr ⟨h, lt_of c k⟩)
    · exact .inr (.inl h)

/-- Texts in order, each once. -/
def ordB (l : List Bs) : List Bs := l.foldl insB []
theorem fold_up {l : List Bs} : ∀ {a : List Bs}, Up a → Up (l.foldl insB a) := by
  induction l with
  | nil => intro a h; exact h
  | cons x l ih => intro a h; exact ih (up_insB x h)
theorem fold_mem {l : List Bs} {x : Bs} : ∀ {a : List Bs}, x ∈ l.foldl insB a ↔ x ∈ a ∨ x ∈ l := by
  induction l with
  | nil => intro a; simp
  | cons y l ih => intro a; rw [List.foldl_cons, ih, mem_insB, List.mem_cons]; exact or_assoc
theorem ordB_up (l : List Bs) : Up (ordB l) := fold_up List.Pairwise.nil
theorem mem_ordB {l : List Bs} {x : Bs} : x ∈ ordB l ↔ x ∈ l := by unfold ordB; rw [fold_mem]; simp
theorem ordB_eq {l m : List Bs} (h : Up m) (hm : ∀ x, x ∈ m ↔ x ∈ l) : m = ordB l := upB_unique h (ordB_up l) (fun x => by rw [hm, mem_ordB])
/-- Numbers in order, each once. -/
def ordI (l : List Int) : List Int := l.foldl insI []
theorem foldI_up {l : List Int} : ∀ {a : List Int}, UpI a → UpI (l.foldl insI a) := by
  induction l with
  | nil => intro a h; exact h
  | cons x l ih => intro a h; exact ih (up_insI x h)
theorem foldI_mem {l : List Int} {x : Int} : ∀ {a : List Int}, x ∈ l.foldl insI a ↔ x ∈ a ∨ x ∈ l := by
  induction l with
  | nil => intro a; simp
  | cons y l ih => intro a; rw [List.foldl_cons, ih, mem_insI, List.mem_cons]; exact or_assoc
theorem ordI_up (l : List Int) : UpI (ordI l) := foldI_up List.Pairwise.nil
theorem mem_ordI {l : List Int} {x : Int} : x ∈ ordI l ↔ x ∈ l := by unfold ordI; rw [foldI_mem]; simp
theorem ordI_eq {l m : List Int} (h : UpI m) (hm : ∀ x, x ∈ m ↔ x ∈ l) : m = ordI l := upI_unique h (ordI_up l) (fun x => by rw [hm, mem_ordI])

/-- Who holds a directory. -/
def heldH (l : List Hl) (p : Bs) : Option Hl := l.find? (fun x => decide (x.d = p))
def freeH (l : List Hl) (t : Int) : List Hl := l.filter (fun x => decide (x.t ≠ t))
def mayH (l : List Hl) (t a : Int) (ds : List Bs) : Bool := isN t && isN a && ds.all okP && l.all (fun x => decide (x.t = t → x.a = a))
/-- The holds of others. -/
def wayH (l : List Hl) (t : Int) (ds : List Bs) : List Hl := l.filter (fun x => decide (x.d ∈ ds ∧ x.t ≠ t))
/-- Is it younger? -/
def yng (t a : Int) (x : Hl) : Bool := decide (a < x.a ∨ x.a = a ∧ t < x.t)
def wndH (l : List Hl) (t a : Int) (ds : List Bs) : List Int := ordI (((wayH l t ds).filter (yng t a)).map Hl.t)
def putsH (l : List Hl) (t a : Int) (ds : List Bs) : List Hl := ds.foldl (fun l d => insH l ⟨d, t, a⟩) l
/-- Take. -/
def takeH (l : List Hl) (t a : Int) (ds : List Bs) : List Hl × List Int × Bool :=
  if rightH l = true ∧ mayH l t a ds = true then
    (if wayH l t ds = [] then (putsH l t a ds, [], true) else (l, wndH l t a ds, false))
  else ([], [], false)
theorem puts_up {ds : List Bs} {t a : Int} : ∀ {l : List Hl}, UpH l → UpH (putsH l t a ds) := by
  unfold putsH
  induction ds with
  | nil => intro l h; exact h
  | cons d ds ih => intro l h; exact ih (up_insH _ h)
theorem mem_puts {ds : List Bs} {t a : Int} {x : Hl} : ∀ {l : List Hl}, (∀ y ∈ l, y.d ∈ ds → y = ⟨y.d, t, a⟩) → (x ∈ putsH l t a ds ↔ x ∈ l ∨ (x.d ∈ ds ∧ x = ⟨x.d, t, a⟩)) := by
  unfold putsH
  induction ds with
  | nil => intro l h; simp
  | cons d ds ih =>
    intro l h
    rw [List.foldl_cons, ih (fun y hy hd => by
      rcases mem_insH.1 hy with ⟨hy, _⟩ | rfl
      · exact h y hy (by simp [hd])
      · rfl), mem_insH]
    constructor
    · rintro ((⟨h1, _⟩ | rfl) | ⟨h1, h2⟩)
      · exact .inl h1
      · exact .inr ⟨by simp, rfl⟩
      · exact .inr ⟨by simp [h1], h2⟩
    · rintro (h1 | ⟨h1, h2⟩)
      · by_cases e : x.d = d
        · have := h x h1 (by simp [e]); left; right; rw [this, e]
        · exact .inl (.inl ⟨h1, e⟩)
      · rcases List.mem_cons.1 h1 with e | e
        · left; right; rw [h2, e]
        · exact .inr ⟨e, h2⟩
theorem way_nil {l : List Hl} {t : Int} {ds : List Bs} (h : wayH l t ds = []) : ∀ y ∈ l, y.d ∈ ds → y.t = t := by
  intro y hy hd
  unfold wayH at h
  rw [List.filter_eq_nil_iff] at h
  have := h y hy
  simp only [decide_eq_true_eq, not_and, Decidable.not_not] at this
  exact this hd
theorem may_iff (l : List Hl) (t a : Int) (ds : List Bs) : mayH l t a ds = true ↔ isN t = true ∧ isN a = true ∧ (∀ d ∈ ds, okP d = true) ∧ ∀ x ∈ l, x.t = t → x.a = a := by
  unfold mayH
  simp only [Bool.and_eq_true, List.all_eq_true, decide_eq_true_eq, and_assoc]
/-- What is held and asked is held by the one who asks. -/
theorem own_of {l : List Hl} {t a : Int} {ds : List Bs} (hm : mayH l t a ds = true) (hw : wayH l t ds = []) : ∀ y ∈ l, y.d ∈ ds → y = ⟨y.d, t, a⟩ := by
  intro y hy hd
  have e1 := way_nil hw y hy hd
  have e2 := ((may_iff _ _ _ _).1 hm).2.2.2 y hy e1
  cases y
  simp only at e1 e2
  subst e1 e2
  rfl
theorem puts_right {l : List Hl} {t a : Int} {ds : List Bs} (hr : RtH l) (hm : mayH l t a ds = true) (hw : wayH l t ds = []) : RtH (putsH l t a ds) := by
  have ho := own_of hm hw
  obtain ⟨h1, h2, h3, h4⟩ := (may_iff _ _ _ _).1 hm
  refine ⟨fun x hx => ?_, puts_up hr.up, fun x hx y hy e => ?_⟩
  · rcases (mem_puts ho).1 hx with h | ⟨h, e⟩
    · exact hr.ok x h
    · rw [e]; unfold okH; rw [h3 _ h, h1, h2]; rfl
  · rcases (mem_puts ho).1 hx with h | ⟨h, e'⟩ <;> rcases (mem_puts ho).1 hy with k | ⟨k, e2⟩
    · exact hr.one x h y k e
    · rw [e2] at e ⊢; exact h4 x h e
    · rw [e'] at e ⊢; exact (h4 y k e.symm).symm
    · rw [e', e2]
/-- The program's way: what is there, and what isn't yet behind it, sorted. -/
theorem puts_eq {l m : List Hl} {t a : Int} {ds : List Bs} (hr : UpH l) (ho : ∀ y ∈ l, y.d ∈ ds → y = ⟨y.d, t, a⟩) (hu : UpH m) (hm : ∀ x, x ∈ m ↔ x ∈ l ∨ (x.d ∈ ds ∧ x = ⟨x.d, t, a⟩)) : m = putsH l t a ds :=
  upH_unique hu (puts_up hr) (fun x => by rw [hm, mem_puts ho])
theorem find_up {l : List Hl} (h : UpH l) {x : Hl} (hx : x ∈ l) : heldH l x.d = some x := by
  unfold heldH
  induction l with
  | nil => cases hx
  | cons y l ih =>
    have h := List.pairwise_cons.1 h
    rw [List.find?_cons]
    rcases List.mem_cons.1 hx with rfl | hx
    · simp
    · have hne : ¬ y.d = x.d := fun e => by have := h.1 x hx; rw [e, lt_irrefl] at this; cases this
      rw [decide_eq_false hne]
      exact ih h.2 hx
theorem find_some {l : List Hl} {p : Bs} {x : Hl} (h : heldH l p = some x) : x ∈ l ∧ x.d = p := by
  unfold heldH at h
  exact ⟨List.mem_of_find?_eq_some h, by simpa using List.find?_some h⟩
theorem find_none {l : List Hl} {p : Bs} (h : heldH l p = none) : ∀ x ∈ l, x.d ≠ p := by
  unfold heldH at h
  rw [List.find?_eq_none] at h
  intro x hx
  simpa using h x hx
theorem free_right {l : List Hl} (t : Int) (h : RtH l) : RtH (freeH l t) :=
  ⟨fun x hx => h.ok x ((List.mem_filter.1 hx).1), h.up.filter _, fun x hx y hy => h.one x ((List.mem_filter.1 hx).1) y ((List.mem_filter.1 hy).1)⟩
theorem mem_free {l : List Hl} {t : Int} {x : Hl} : x ∈ freeH l t ↔ x ∈ l ∧ x.t ≠ t := by
  unfold freeH; rw [List.mem_filter]; simp
end Pm
end Go.Proofs.YtenaggleepoclaaGreat
