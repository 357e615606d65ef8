/- Plain: mounts; what Right, Of, Begin, Flip make of them (gen_b.py, out of owned/XOa). Nothing of the program. -/
import Derived.Test.YtajgjhkienhpjaaPq
namespace Go.Proofs.Ytajgjhkienhpjaa
set_option linter.unusedVariables false
set_option linter.unusedSimpArgs false
namespace Pm

/-- The order of texts. -/
abbrev lt (a b : Bs) : Bool := Op.bytesLess a b
theorem lt_nil_right (a : Bs) : lt a [] = false := by cases a <;> rfl
theorem lt_cons (a b : UInt8) (x y : Bs) : lt (a :: x) (b :: y) = (decide (a < b) || (a == b && lt x y)) := rfl
theorem lt_irrefl : ∀ a : Bs, lt a a = false
  | [] => rfl
  | c :: a => by rw [lt_cons, lt_irrefl a]; simp
theorem lt_trans : ∀ {a b c : Bs}, lt a b = true → lt b c = true → lt a c = true
  | _, _, [], _, h => by rw [lt_nil_right] at h; cases h
  | _, [], _ :: _, h, _ => by rw [lt_nil_right] at h; cases h
  | [], _ :: _, _ :: _, _, _ => rfl
  | x :: a, y :: b, z :: c, h, k => by
    rw [lt_cons] at h k ⊢
    simp only [Bool.or_eq_true, Bool.and_eq_true, decide_eq_true_eq, beq_iff_eq] at h k ⊢
    rcases h with h | ⟨rfl, h⟩ <;> rcases k with k | ⟨rfl, k⟩
    · exact .inl (UInt8.lt_trans h k)
    · exact .inl h
    · exact .inl k
    · exact .inr ⟨rfl, lt_trans h k⟩
theorem lt_total : ∀ (a b : Bs), lt a b = false → lt b a = false → a = b
  | [], [], _, _ => rfl
  | [], _ :: _, h, _ => by cases h
  | _ :: _, [], _, h => by cases h
  | x :: a, y :: b, h, k => by
    rw [lt_cons] at h k
    simp only [Bool.or_eq_false_iff, Bool.and_eq_false_iff, decide_eq_false_iff_not, beq_eq_false_iff_ne] at h k
    have e : x = y := UInt8.le_antisymm (UInt8.not_lt.1 k.1) (UInt8.not_lt.1 h.1)
    subst e
    have h2 := h.2.resolve_left (fun f => f rfl)
    have k2 := k.2.resolve_left (fun f => f rfl)
    rw [lt_total a b h2 k2]
theorem lt_asymm {a b : Bs} (h : lt a b = true) : lt b a = false := by
  cases k : lt b a with
  | false => rfl
  | true => have := lt_trans h k; rw [lt_irrefl] at this; cases this
theorem lt_ne {a b : Bs} (h : lt a b = true) : a ≠ b := by
  rintro rfl; rw [lt_irrefl] at h; cases h
theorem lt_of {a b : Bs} (h : lt a b = false) (k : a ≠ b) : lt b a = true := by
  cases h2 : lt b a with
  | true => rfl
  | false => exact absurd (lt_total a b h h2) k
theorem lt_of_le_lt {a b c : Bs} (h : lt b a = false) (k : lt b c = true) : lt a c = true := by
  by_cases e : b = a
  · subst e; exact k
  · exact lt_trans (lt_of h e) k
theorem lt_le_trans {a b c : Bs} (h : lt a b = true) (k : lt c b = false) : lt a c = true := by
  by_cases e : c = b
  · subst e; exact h
  · exact lt_trans h (lt_of k e)

/-- A mount: Prefix, Group, Epoch, To. -/
structure Mt where
  d : Bs
  g : Int
  e : Int
  t : Int
deriving DecidableEq
def mt0 : Mt := ⟨[], 0, 0, 0⟩

def mxN : Int := 281474976710656
def okP (p : Bs) : Bool := (split p).isSome
def okE (e : Int) : Bool := decide (0 ≤ e ∧ e ≤ mxN)
def okG (a : Int) : Bool := decide (0 ≤ a ∧ a < 4)
def okM (x : Mt) : Bool := okP x.d && okG x.g && okG x.t && okE x.e
def mvM (x : Mt) : Bool := decide (x.t ≠ x.g)
abbrev Up (l : List Bs) : Prop := l.Pairwise (fun a b => lt a b = true)
abbrev UpM (l : List Mt) : Prop := l.Pairwise (fun a b => lt a.d b.d = true)
structure RtM (l : List Mt) : Prop where
  len : l.length ≤ 32
  ok : ∀ x ∈ l, okM x = true
  up : UpM l
  root : ∃ x r, l = x :: r ∧ x.d = [47]
def rightM (l : List Mt) : Bool := decide (l.length ≤ 32 ∧ (∀ x ∈ l, okM x = true) ∧ UpM l ∧ l.head?.map Mt.d = some [47])
theorem right_iff (l : List Mt) : rightM l = true ↔ RtM l := by
  unfold rightM
  rw [decide_eq_true_eq]
  refine ⟨fun h => ⟨h.1, h.2.1, h.2.2.1, ?_⟩, fun h => ⟨h.len, h.ok, h.up, ?_⟩⟩
  · have := h.2.2.2
    cases l with
    | nil => cases this
    | cons x r => exact ⟨x, r, rfl, by simpa using this⟩
  · obtain ⟨x, r, rfl, e⟩ := h.root; simp [e]
theorem RtM.pos {l : List Mt} (h : RtM l) : 0 < l.length := by obtain ⟨x, r, rfl, _⟩ := h.root; simp
theorem upM_map {l : List Mt} : UpM l ↔ Up (l.map Mt.d) := by unfold UpM Up; rw [List.pairwise_map]
theorem upM_cons {y : Mt} {r : List Mt} : UpM (y :: r) ↔ (∀ a ∈ r, lt y.d a.d = true) ∧ UpM r := List.pairwise_cons
theorem UpM.at {l : List Mt} (h : UpM l) {i j : Nat} (hi : i < l.length) (hj : j < l.length) (hij : i < j) : lt l[i].d l[j].d = true := List.pairwise_iff_getElem.1 h i j hi hj hij

/-- Where the range of that very prefix is, or would come to. -/
def plM : List Mt → Bs → Nat
  | [], _ => 0
  | y :: r, p => if lt y.d p = true then plM r p + 1 else 0
def getM : List Mt → Bs → Option Mt
  | [], _ => none
  | y :: r, p => if y.d = p then some y else getM r p
def putM : List Mt → Mt → List Mt
  | [], x => [x]
  | y :: r, x => if lt y.d x.d = true then y :: putM r x else if y.d = x.d then x :: r else x :: y :: r
theorem plM_le (l : List Mt) (p : Bs) : plM l p ≤ l.length := by
  induction l with
  | nil => exact Nat.le_refl _
  | cons s r ih => unfold plM; split <;> simp <;> omega
theorem plM_of {l : List Mt} {n : Bs} {k : Nat} (hk : k ≤ l.length) (h1 : ∀ i (h : i < l.length), i < k → lt l[i].d n = true) (h2 : ∀ i (h : i < l.length), k ≤ i → lt l[i].d n = false) : plM l n = k := by
  induction l generalizing k with
  | nil => have : k = 0 := by simpa using hk
           subst this; rfl
  | cons s r ih =>
    unfold plM
    cases k with
    | zero => rw [if_neg (by have := h2 0 (by simp) (Nat.le_refl _); simpa using this)]
    | succ k =>
      rw [if_pos (by have := h1 0 (by simp) (Nat.succ_pos _); simpa using this)]
      rw [ih (k := k) (by simpa using hk) (fun i h hi => h1 (i + 1) (Nat.succ_lt_succ h) (by omega)) (fun i h hi => h2 (i + 1) (Nat.succ_lt_succ h) (by omega))]
theorem getM_some {l : List Mt} {p : Bs} {x : Mt} (h : getM l p = some x) : x ∈ l ∧ x.d = p := by
  induction l with
  | nil => cases h
  | cons y r ih =>
    unfold getM at h
    by_cases e : y.d = p
    · rw [if_pos e] at h; cases h; exact ⟨by simp, e⟩
    · rw [if_neg e] at h; exact ⟨List.mem_cons_of_mem _ (ih h).1, (ih h).2⟩
theorem getM_none {l : List Mt} {p : Bs} (h : getM l p = none) : ∀ x ∈ l, x.d ≠ p := by
  induction l with
  | nil => intro x hx; cases hx
  | cons y r ih =>
    unfold getM at h
    by_cases e : y.d = p
    · rw [if_pos e] at h; cases h
    · rw [if_neg e] at h
      intro x hx
      rcases List.mem_cons.1 hx with rfl | hx
      · exact e
      · exact ih h x hx
theorem getM_mem {l : List Mt} (hu : UpM l) {x : Mt} (h : x ∈ l) : getM l x.d = some x := by
  induction l with
  | nil => cases h
  | cons y r ih =>
    rw [upM_cons] at hu
    unfold getM
    rcases List.mem_cons.1 h with rfl | h
    · rw [if_pos rfl]
    · rw [if_neg (lt_ne (hu.1 x h)), ih hu.2 h]
theorem getM_no {l : List Mt} {p : Bs} (h : ∀ x ∈ l, x.d ≠ p) : getM l p = none := by
  cases e : getM l p with
  | none => rfl
  | some x => exact absurd (getM_some e).2 (h x (getM_some e).1)
theorem getM_place {l : List Mt} (h : UpM l) (p : Bs) : getM l p = if h : plM l p < l.length then (if l[plM l p].d = p then some l[plM l p] else none) else none := by
  induction l with
  | nil => rfl
  | cons s r ih =>
    rw [upM_cons] at h
    by_cases h1 : lt s.d p = true
    · have e : plM (s :: r) p = plM r p + 1 := by simp only [plM, if_pos h1]
      simp only [e, getM]
      rw [if_neg (lt_ne h1), ih h.2]
      by_cases h2 : plM r p < r.length
      · rw [dif_pos h2, dif_pos (by simpa using h2)]
        simp only [List.getElem_cons_succ]
      · rw [dif_neg h2, dif_neg (by simpa using h2)]
    · have e : plM (s :: r) p = 0 := by simp only [plM, if_neg h1]
      simp only [e, getM]
      rw [dif_pos (by simp)]
      simp only [List.getElem_cons_zero]
      by_cases h2 : s.d = p
      · rw [if_pos h2, if_pos h2]
      · rw [if_neg h2, if_neg h2]
        refine getM_no fun x hx e => ?_
        have := h.1 x hx
        rw [e] at this
        exact h1 this
theorem put_set {l : List Mt} (hu : UpM l) {x : Mt} (h : (getM l x.d).isSome = true) : plM l x.d < l.length ∧ putM l x = l.set (plM l x.d) x := by
  induction l with
  | nil => cases h
  | cons y r ih =>
    rw [upM_cons] at hu
    by_cases h1 : lt y.d x.d = true
    · have hn : y.d ≠ x.d := lt_ne h1
      simp only [getM, if_neg hn] at h
      simp only [putM, plM, if_pos h1]
      have := ih hu.2 h
      exact ⟨by simp; exact this.1, by rw [this.2]; rfl⟩
    · simp only [putM, plM, if_neg h1]
      by_cases h2 : y.d = x.d
      · rw [if_pos h2]; exact ⟨by simp, rfl⟩
      · simp only [getM, if_neg h2] at h
        obtain ⟨z, hz⟩ := Option.isSome_iff_exists.1 h
        have := getM_some hz
        have h3 := hu.1 z this.1
        rw [this.2] at h3
        exact absurd h3 h1
theorem put_ins {l : List Mt} {x : Mt} (h : getM l x.d = none) : putM l x = l.take (plM l x.d) ++ x :: l.drop (plM l x.d) := by
  induction l with
  | nil => rfl
  | cons y r ih =>
    have h2 : y.d ≠ x.d := getM_none h y (by simp)
    simp only [getM, if_neg h2] at h
    by_cases h1 : lt y.d x.d = true
    · simp only [putM, plM, if_pos h1]
      rw [ih h]; simp
    · simp only [putM, plM, if_neg h1, if_neg h2]; simp
theorem mem_put {l : List Mt} (hu : UpM l) {x y : Mt} : y ∈ putM l x ↔ y = x ∨ (y ∈ l ∧ y.d ≠ x.d) := by
  induction l with
  | nil => simp [putM]
  | cons z r ih =>
    rw [upM_cons] at hu
    by_cases h1 : lt z.d x.d = true
    · simp only [putM, if_pos h1, List.mem_cons]
      rw [ih hu.2]
      constructor
      · rintro (rfl | rfl | ⟨h, k⟩)
        · exact .inr ⟨.inl rfl, lt_ne h1⟩
        · exact .inl rfl
        · exact .inr ⟨.inr h, k⟩
      · rintro (rfl | ⟨rfl | h, k⟩)
        · exact .inr (.inl rfl)
        · exact .inl rfl
        · exact .inr (.inr ⟨h, k⟩)
    · by_cases h2 : z.d = x.d
      · simp only [putM, if_neg h1, if_pos h2, List.mem_cons]
        constructor
        · rintro (rfl | h)
          · exact .inl rfl
          · exact .inr ⟨.inr h, fun e => by have := hu.1 y h; rw [h2, e, lt_irrefl] at this; cases this⟩
        · rintro (rfl | ⟨rfl | h, k⟩)
          · exact .inl rfl
          · exact absurd h2 k
          · exact .inr h
      · simp only [putM, if_neg h1, if_neg h2, List.mem_cons]
        have h3 : lt x.d z.d = true := lt_of (by simpa using h1) h2
        constructor
        · rintro (rfl | rfl | h)
          · exact .inl rfl
          · exact .inr ⟨.inl rfl, h2⟩
          · exact .inr ⟨.inr h, fun e => by have := lt_trans h3 (hu.1 y h); rw [e, lt_irrefl] at this; cases this⟩
        · rintro (rfl | ⟨rfl | h, k⟩)
          · exact .inl rfl
          · exact .inr (.inl rfl)
          · exact .inr (.inr h)
theorem up_put {l : List Mt} (hu : UpM l) (x : Mt) : UpM (putM l x) := by
  induction l with
  | nil => simp [putM, UpM]
  | cons z r ih =>
    have hu0 := hu
    rw [upM_cons] at hu
    by_cases h1 : lt z.d x.d = true
    · simp only [putM, if_pos h1]
      rw [upM_cons]
      refine ⟨fun y hy => ?_, ih hu.2⟩
      rcases (mem_put hu.2).1 hy with rfl | ⟨h, _⟩
      · exact h1
      · exact hu.1 y h
    · by_cases h2 : z.d = x.d
      · simp only [putM, if_neg h1, if_pos h2]
        rw [upM_cons]
        exact ⟨fun y hy => by rw [← h2]; exact hu.1 y hy, hu.2⟩
      · simp only [putM, if_neg h1, if_neg h2]
        have h3 : lt x.d z.d = true := lt_of (by simpa using h1) h2
        rw [upM_cons]
        refine ⟨fun y hy => ?_, hu0⟩
        rcases List.mem_cons.1 hy with rfl | hy
        · exact h3
        · exact lt_trans h3 (hu.1 y hy)
theorem len_put {l : List Mt} (hu : UpM l) (x : Mt) : (putM l x).length = if (getM l x.d).isSome = true then l.length else l.length + 1 := by
  by_cases h : (getM l x.d).isSome = true
  · rw [if_pos h, (put_set hu h).2, List.length_set]
  · rw [if_neg h, put_ins (by simpa using h)]
    have := plM_le l x.d
    simp only [List.length_append, List.length_take, List.length_cons, List.length_drop]; omega
theorem get_put {l : List Mt} (hu : UpM l) (x : Mt) : getM (putM l x) x.d = some x := getM_mem (up_put hu x) ((mem_put hu).2 (.inl rfl))
theorem root_least {p : Bs} (h : okP p = true) : p = [47] ∨ lt [47] p = true := by
  unfold okP at h
  obtain ⟨ps, hs⟩ := Option.isSome_iff_exists.1 h
  obtain ⟨hP, rfl⟩ := (split_iff p ps).1 hs
  cases ps with
  | nil => exact .inl rfl
  | cons x r =>
    right
    have hx := (isPart_len (hP.2 x (by simp))).1
    cases x with
    | nil => simp at hx
    | cons c x => rfl
theorem right_put {l : List Mt} (h : RtM l) {x : Mt} (hx : okM x = true) (hr : (getM l x.d).isSome = true ∨ l.length < 32) : RtM (putM l x) := by
  have hp : okP x.d = true := by unfold okM at hx; simp only [Bool.and_eq_true] at hx; exact hx.1.1.1
  refine ⟨by rw [len_put h.up]; have := h.len; rcases hr with hr | hr
             · rw [if_pos hr]; exact this
             · split <;> omega,
   fun y hy => by rcases (mem_put h.up).1 hy with rfl | ⟨h1, _⟩
                  · exact hx
                  · exact h.ok y h1, up_put h.up x, ?_⟩
  obtain ⟨y, r, rfl, hy⟩ := h.root
  rcases root_least hp with e | e
  · exact ⟨x, r, by simp [putM, hy, e, lt_irrefl], e⟩
  · exact ⟨y, putM r x, by simp [putM, hy, e], hy⟩

/-! ### The mount of a directory -/
theorem split_joinP {p : Bs} {a : List Bs} (h : split p = some a) : p = joinP a ∧ Parts a := by
  have := (split_iff p a).1 h; exact ⟨this.2.symm, this.1⟩
theorem lt_prefix : ∀ (a b : Bs), b ≠ [] → lt a (a ++ b) = true
  | [], c :: b, _ => rfl
  | [], [], h => absurd rfl h
  | x :: a, b, h => by rw [List.cons_append, lt_cons, lt_prefix a b h]; simp
/-- Of two that have the same in them the lesser one is the shorter one. -/
theorem chain {d p q : Bs} (hp : inB d p = true) (hq : inB d q = true) (hl : p.length ≤ q.length) : p = q ∨ (lt p q = true ∧ p.length < q.length) := by
  obtain ⟨a, b, ha, hb, hab⟩ := in_some hp
  obtain ⟨a', c, ha', hc, hac⟩ := in_some hq
  rw [ha] at ha'
  injection ha' with ha'
  subst ha'
  obtain ⟨e1, P1⟩ := split_joinP hb
  obtain ⟨e2, P2⟩ := split_joinP hc
  have key : ∀ {b c : List Bs}, Parts b → Parts c → b <+: c → b ≠ c → lt (joinP b) (joinP c) = true ∧ (joinP b).length < (joinP c).length := by
    intro b c Pb Pc hbc hne
    obtain ⟨t, rfl⟩ := hbc
    have ht : t ≠ [] := fun e => hne (by rw [e, List.append_nil])
    obtain ⟨x, t, rfl⟩ : ∃ x t', t = x :: t' := by cases t with | nil => exact absurd rfl ht | cons x t => exact ⟨x, t, rfl⟩
    cases b with
    | nil =>
      have hx := (isPart_len (Pc.2 x (by simp))).1
      have e : joinP ([] ++ x :: t) = [47] ++ (x ++ flat t) := rfl
      rw [e]
      have h0 : x ++ flat t ≠ [] := by intro h; have := congrArg List.length h; simp at this; have := this.1; subst this; simp at hx
      exact ⟨lt_prefix _ _ h0, by rw [List.length_append]; have : 0 < (x ++ flat t).length := by cases h1 : x ++ flat t with | nil => exact absurd h1 h0 | cons _ _ => simp
                                  show (joinP []).length < _
                                  simp [joinP, jn] at this ⊢; omega⟩
    | cons y b =>
      have e : joinP (y :: b ++ x :: t) = joinP (y :: b) ++ flat (x :: t) := by
        rw [List.cons_append, joinP_cons, joinP_cons, flat_cons, flat_cons]
        unfold flat; simp
      have h0 : flat (x :: t) ≠ [] := by rw [flat_cons]; simp
      rw [e]
      exact ⟨lt_prefix _ _ h0, by rw [List.length_append]; have : 0 < (flat (x :: t)).length := by rw [flat_cons]; simp
                                  omega⟩
  rcases List.prefix_or_prefix_of_prefix hab hac with h | h
  · by_cases e : b = c
    · left; rw [e1, e2, e]
    · right; rw [e1, e2]; exact key P1 P2 h e
  · by_cases e : c = b
    · left; rw [e1, e2, e]
    · have := (key P2 P1 h e).2
      rw [← e1, ← e2] at this; omega
theorem chain_lt {d p q : Bs} (hp : inB d p = true) (hq : inB d q = true) (h : lt p q = true) : p.length < q.length := by
  by_cases hl : p.length ≤ q.length
  · rcases chain hp hq hl with e | e
    · exact absurd e (lt_ne h)
    · exact e.2
  · rcases chain hq hp (by omega) with e | e
    · exact absurd e.symm (lt_ne h)
    · rw [lt_asymm h] at e; cases e.1
theorem chain_len {d p q : Bs} (hp : inB d p = true) (hq : inB d q = true) (h : p.length < q.length) : lt p q = true := by
  rcases chain hp hq (by omega) with e | e
  · subst e; omega
  · exact e.1

def inx (l : List Mt) (d : Bs) (k : Nat) : Bool := match l[k]? with | some x => inB d x.d | none => false
theorem inx_at {l : List Mt} {d : Bs} {k : Nat} (h : k < l.length) : inx l d k = inB d l[k].d := by unfold inx; rw [List.getElem?_eq_getElem h]
def bk (l : List Mt) (d : Bs) : Nat → Option Nat
  | 0 => none
  | k + 1 => if inx l d k = true then some k else bk l d k
theorem bk_none {l : List Mt} {d : Bs} {n : Nat} (h : ∀ j, j < n → inx l d j = false) : bk l d n = none := by
  induction n with
  | zero => rfl
  | succ n ih =>
    unfold bk
    rw [if_neg (by rw [h n (Nat.lt_succ_self n)]; exact Bool.false_ne_true)]
    exact ih fun j hj => h j (by omega)
theorem bk_at {l : List Mt} {d : Bs} {n i : Nat} (hi : i < n) (h : inx l d i = true) (h2 : ∀ j, i < j → j < n → inx l d j = false) : bk l d n = some i := by
  induction n with
  | zero => omega
  | succ n ih =>
    unfold bk
    rcases Nat.lt_or_eq_of_le (show i ≤ n by omega) with e | e
    · rw [if_neg (by rw [h2 n e (Nat.lt_succ_self n)]; exact Bool.false_ne_true)]
      exact ih e fun j h1 h3 => h2 j h1 (by omega)
    · subst e; rw [if_pos h]
theorem bk_some {l : List Mt} {d : Bs} {n i : Nat} (h : bk l d n = some i) : i < n ∧ inx l d i = true := by
  induction n with
  | zero => cases h
  | succ n ih =>
    unfold bk at h
    by_cases e : inx l d n = true
    · rw [if_pos e] at h; cases h; exact ⟨Nat.lt_succ_self _, e⟩
    · rw [if_neg e] at h; exact ⟨Nat.lt_succ_of_lt (ih h).1, (ih h).2⟩
def idx : Option Nat → Int
  | none => -1
  | some k => (k : Int)
def ofR (l : List Mt) (d : Bs) : Option Nat := if rightM l = true then bk l d l.length else none
theorem ofR_lt {l : List Mt} {d : Bs} {i : Nat} (h : ofR l d = some i) : i < l.length := by
  unfold ofR at h
  split at h
  · exact (bk_some h).1
  · cases h
def pick (l : List Mt) (d : Bs) : Option Mt := (ofR l d).bind (l[·]?)
theorem pick_at {l : List Mt} {d : Bs} {i : Nat} (h : ofR l d = some i) : pick l d = some (l[i]'(ofR_lt h)) := by
  unfold pick; rw [h]; exact List.getElem?_eq_getElem _
theorem pick_none {l : List Mt} {d : Bs} (h : ofR l d = none) : pick l d = none := by unfold pick; rw [h]; rfl
theorem pick_filter {l : List Mt} (h : RtM l) (d : Bs) : pick l d = (l.filter (fun y => inB d y.d)).getLast? := by
  unfold pick ofR
  rw [if_pos ((right_iff l).2 h)]
  have : ∀ k, k ≤ l.length → (bk l d k).bind (l[·]?) = ((l.take k).filter (fun y => inB d y.d)).getLast? := by
    intro k hk
    induction k with
    | zero => rfl
    | succ k ih =>
      have hk' : k < l.length := hk
      rw [List.take_succ_eq_append_getElem hk', List.filter_append]
      unfold bk
      rw [inx_at hk']
      cases e : inB d l[k].d with
      | true =>
        rw [if_pos rfl]
        simp [e, List.getElem?_eq_getElem hk']
      | false =>
        rw [if_neg Bool.false_ne_true, ih (by omega)]
        simp [e]
  rw [this l.length (Nat.le_refl _), List.take_length]
theorem pick_ok {l : List Mt} {d : Bs} {x : Mt} (h : pick l d = some x) : RtM l ∧ x ∈ l ∧ inB d x.d = true := by
  cases e : ofR l d with
  | none => rw [pick_none e] at h; cases h
  | some i =>
    rw [pick_at e] at h
    injection h with h
    have hr : RtM l := by
      unfold ofR at e
      by_cases hr : rightM l = true
      · exact (right_iff l).1 hr
      · rw [if_neg hr] at e; cases e
    refine ⟨hr, by rw [← h]; exact List.getElem_mem _, ?_⟩
    unfold ofR at e
    rw [if_pos ((right_iff l).2 hr)] at e
    have := (bk_some e).2
    rw [inx_at (bk_some e).1, h] at this
    exact this
theorem last_put {l : List Mt} (x : Mt) (hu : UpM l) : (putM l x).getLast? = match l.getLast? with | some y => if lt x.d y.d = true then some y else some x | none => some x := by
  induction l with
  | nil => rfl
  | cons y r ih =>
    rw [upM_cons] at hu
    have hgl : ∀ {α : Type} (a : α) (s : List α), s ≠ [] → (a :: s).getLast? = s.getLast? := by
      intro α a s hs; cases s with | nil => exact absurd rfl hs | cons b s => rfl
    have hne : putM r x ≠ [] := by cases r with | nil => simp [putM] | cons z r => simp only [putM]; split <;> (try split) <;> simp
    by_cases h1 : lt y.d x.d = true
    · simp only [putM, if_pos h1]
      rw [hgl _ _ hne, ih hu.2]
      cases r with
      | nil => simp [lt_asymm h1]
      | cons z r => rfl
    · by_cases h2 : y.d = x.d
      · simp only [putM, if_neg h1, if_pos h2]
        cases r with
        | nil => simp [h2, lt_irrefl]
        | cons z r =>
          rw [hgl x (z :: r) (by simp), hgl y (z :: r) (by simp)]
          obtain ⟨u, hu2⟩ : ∃ u, (z :: r).getLast? = some u := ⟨_, List.getLast?_eq_some_getLast (by simp)⟩
          rw [hu2]
          have hm : u ∈ z :: r := List.mem_of_getLast? hu2
          simp only
          rw [if_pos (by rw [← h2]; exact hu.1 u hm)]
      · have h3 : lt x.d y.d = true := lt_of (by simpa using h1) h2
        simp only [putM, if_neg h1, if_neg h2]
        rw [hgl _ _ (by simp)]
        obtain ⟨u, hu2⟩ : ∃ u, (y :: r).getLast? = some u := ⟨_, List.getLast?_eq_some_getLast (by simp)⟩
        rw [hu2]
        have hm : u ∈ y :: r := List.mem_of_getLast? hu2
        simp only
        rw [if_pos (by
          rcases List.mem_cons.1 hm with rfl | hm
          · exact h3
          · exact lt_trans h3 (hu.1 u hm))]
theorem filter_put {l : List Mt} (x : Mt) (q : Bs → Bool) (hu : UpM l) : (putM l x).filter (fun y => q y.d) = if q x.d = true then putM (l.filter (fun y => q y.d)) x else l.filter (fun y => q y.d) := by
  have hput : ∀ m : List Mt, (∀ y ∈ m, lt x.d y.d = true) → putM m x = x :: m := by
    intro m hm
    cases m with
    | nil => rfl
    | cons z m =>
      have := hm z (by simp)
      simp only [putM]
      rw [if_neg (by rw [lt_asymm this]; exact Bool.false_ne_true), if_neg (fun e => by rw [e, lt_irrefl] at this; cases this)]
  induction l with
  | nil => simp only [putM, List.filter_nil]; cases e : q x.d <;> simp [e]
  | cons y r ih =>
    rw [upM_cons] at hu
    have hi := ih hu.2
    by_cases h1 : lt y.d x.d = true
    · simp only [putM, if_pos h1, List.filter_cons, hi]
      cases e : q y.d <;> cases e2 : q x.d <;> simp [putM, h1]
    · by_cases h2 : y.d = x.d
      · simp only [putM, if_neg h1, if_pos h2, List.filter_cons]
        rw [h2]
        cases e2 : q x.d with
        | true => simp [putM, h2, lt_irrefl]
        | false => simp
      · have h3 : lt x.d y.d = true := lt_of (by simpa using h1) h2
        simp only [putM, if_neg h1, if_neg h2]
        rw [List.filter_cons]
        cases e2 : q x.d with
        | true =>
          simp only [if_true]
          rw [hput]
          intro z hz
          have := (List.mem_filter.1 hz).1
          rcases List.mem_cons.1 this with rfl | hm
          · exact h3
          · exact lt_trans h3 (hu.1 z hm)
        | false => simp
theorem pick_put {l : List Mt} {x : Mt} (h : RtM l) (h2 : RtM (putM l x)) (d : Bs) :
    pick (putM l x) d = if inB d x.d = true then (match pick l d with | some y => if lt x.d y.d = true then some y else some x | none => some x) else pick l d := by
  rw [pick_filter h2, pick_filter h, filter_put x (fun p => inB d p) h.up]
  split
  · rw [last_put _ (h.up.filter _)]
  · rfl
theorem pick_own {l : List Mt} {x : Mt} (h : RtM l) (h2 : RtM (putM l x)) (hi : inB x.d x.d = true) : pick (putM l x) x.d = some x := by
  rw [pick_put h h2, if_pos hi]
  cases hp : pick l x.d with
  | none => rfl
  | some y =>
    have hy := (pick_ok hp).2.2
    have : lt x.d y.d = false := by
      cases e : lt x.d y.d with
      | false => rfl
      | true =>
        have h1 := chain_lt hi hy e
        obtain ⟨a, b, ha, hb, hab⟩ := in_some hy
        have h3 := (split_joinP ha).1
        have h4 := (split_joinP hb).1
        obtain ⟨t, rfl⟩ := hab
        have : y.d.length ≤ x.d.length := by
          rw [h3, h4]
          cases b with
          | nil => simp [joinP, jn]
          | cons z b => rw [List.cons_append, joinP_cons, joinP_cons]; unfold flat; simp
        omega
    simp [this]

/-! ### Which one, Begin, Flip -/
theorem findM_eq {l : List Mt} {q : Mt → Bool} {z : Int} (h : (z = -1 ∧ ∀ n ∈ l, q n = false) ∨ ∃ i, z = ((i : Nat) : Int) ∧ ∃ h : i < l.length, q l[i] = true ∧ ∀ j (hj : j < l.length), j < i → q l[j] = false) : z = idx (l.findIdx? q) := by
  rcases h with ⟨rfl, h⟩ | ⟨i, rfl, hi, hq, hb⟩
  · rw [List.findIdx?_eq_none_iff.2 h]; rfl
  · have : l.findIdx? q = some i := List.findIdx?_eq_some_iff_getElem.2 ⟨hi, hq, fun j hj => by rw [hb j (by omega) hj]; exact Bool.false_ne_true⟩
    rw [this]; rfl
def exM (l : List Mt) (p : Bs) : Option Nat := l.findIdx? (fun m => decide (m.d = p))
theorem exM_some {l : List Mt} {p : Bs} {i : Nat} (h : exM l p = some i) : ∃ h : i < l.length, l[i].d = p := by
  obtain ⟨h1, h2, _⟩ := List.findIdx?_eq_some_iff_getElem.1 h
  exact ⟨h1, by simpa using h2⟩
theorem exM_none {l : List Mt} {p : Bs} (h : exM l p = none) : ∀ x ∈ l, x.d ≠ p := fun x hx => by
  have := List.findIdx?_eq_none_iff.1 h x hx; simpa using this
theorem exM_get {l : List Mt} (p : Bs) : getM l p = (exM l p).bind (l[·]?) := by
  induction l with
  | nil => rfl
  | cons y r ih =>
    unfold exM at ih ⊢
    rw [List.findIdx?_cons]
    unfold getM
    by_cases e : y.d = p
    · simp [e]
    · simp only [if_neg e, decide_eq_false e, Bool.false_eq_true, if_false]
      rw [ih]
      cases List.findIdx? (fun m => decide (m.d = p)) r with
      | none => rfl
      | some i => simp
theorem exM_at {l : List Mt} {p : Bs} {i : Nat} (h : exM l p = some i) : getM l p = some (l[i]'(exM_some h).1) := by
  rw [exM_get, h]; exact List.getElem?_eq_getElem _
theorem exM_no {l : List Mt} {p : Bs} (h : exM l p = none) : getM l p = none := by rw [exM_get, h]; rfl
/-- Does something near move? -/
def nearM (l : List Mt) (p : Bs) : Bool := l.any (fun m => mvM m && (inB m.d p || inB p m.d))
/-- Why nothing can begin: the mount of the prefix, that very one. -/
def rfs (l : List Mt) (p : Bs) (to : Int) : Int :=
  if nearM l p = true then 131 else
  match pick l p with
  | none => 0
  | some y => if y.g = to then 61 else if (getM l p).isNone = true ∧ l.length = 32 ∨ y.e = mxN then 2 else 0
def mayM (l : List Mt) (p : Bs) (to : Int) : Bool := rightM l && okP p && okG to
structure Bg where
  l : List Mt
  m : Mt
  e : Int
deriving DecidableEq
/-- What begins to move. -/
def newM (l : List Mt) (p : Bs) (to : Int) : Mt := match pick l p with | none => mt0 | some y => ⟨p, y.g, y.e, to⟩
def bgn (l : List Mt) (p : Bs) (to : Int) : Bg :=
  if mayM l p to = true then
    match getM l p with
    | some y => if mvM y = true ∧ y.t = to then ⟨l, y, 0⟩ else if rfs l p to = 0 then ⟨putM l (newM l p to), newM l p to, 0⟩ else ⟨l, mt0, rfs l p to⟩
    | none => if rfs l p to = 0 then ⟨putM l (newM l p to), newM l p to, 0⟩ else ⟨l, mt0, rfs l p to⟩
  else ⟨[], mt0, 1⟩
structure Fl where
  l : List Mt
  e : Int
deriving DecidableEq
def flp (l : List Mt) (p : Bs) (ep to : Int) : Fl :=
  if mayM l p to = true then
    match getM l p with
    | none => ⟨l, 133⟩
    | some y => if y.t = to then (if mvM y = true ∧ y.e = ep ∧ ep < mxN then ⟨putM l ⟨p, to, ep + 1, to⟩, 0⟩ else if mvM y = false ∧ y.e = ep + 1 then ⟨l, 0⟩ else ⟨l, 133⟩) else ⟨l, 133⟩
  else ⟨[], 1⟩

end Pm
end Go.Proofs.Ytajgjhkienhpjaa
