/- Plain: watches, events, sessions; what Right, Add, Close, Tell, Take make of them. Nothing of the program. -/
import Derived.Test.YtjdpbieifcjmiaaPq
namespace Go.Proofs.Ytjdpbieifcjmiaa
set_option linter.unusedVariables false
set_option linter.unusedSimpArgs false
open Pm

structure Wt where
  s : Int
  n : Int
  p : Bs
  d : Bool
deriving DecidableEq
structure Ev where
  num : Int
  kind : Int
  p : Bs
  wt : Int
deriving DecidableEq
structure Se where
  num : Int
  count : Int
  evs : List Ev
deriving DecidableEq
structure Wd where
  ws : List Wt
  ss : List Se
deriving DecidableEq

def mxN : Int := 281474976710656
def isN (n : Int) : Bool := decide (1 ≤ n ∧ n ≤ mxN)
def rWt (x : Wt) : Bool := isN x.s && isN x.n && (split x.p).isSome
def hit (s n : Int) (x : Wt) : Bool := decide (x.s = s ∧ x.n = n)
/-- An event of that number, fit to wait. -/
def rEv (num : Int) (e : Ev) : Bool := decide (e.num = num ∧ 1 ≤ e.kind ∧ e.kind ≤ 4) && (split e.p).isSome && isN e.wt
def rSe (s : Se) : Bool := isN s.num && decide (0 ≤ s.count ∧ s.count ≤ mxN ∧ s.evs.length ≤ 8 ∧ (s.evs.length : Int) ≤ s.count) && decide (∀ i (h : i < s.evs.length), rEv (s.count - s.evs.length + 1 + i) s.evs[i] = true)
/-- The i-th watch is right, behind those ahead of it. -/
def okWt (ws : List Wt) (i : Nat) : Bool := if h : i < ws.length then rWt ws[i] && !(ws.take i).any (hit ws[i].s ws[i].n) else true
def okSe (ss : List Se) (i : Nat) : Bool := if h : i < ss.length then rSe ss[i] && (if h0 : 0 < i then decide (ss[i-1].num < ss[i].num) else true) else true
def rightW (d : Wd) : Bool := decide (d.ws.length ≤ 64 ∧ (∀ i, i < d.ws.length → okWt d.ws i = true) ∧ ∀ i, i < d.ss.length → okSe d.ss i = true)

def RW (ws : List Wt) : Prop := (∀ x ∈ ws, rWt x = true) ∧ ws.Pairwise (fun a b => ¬ (a.s = b.s ∧ a.n = b.n))
def RS (ss : List Se) : Prop := (∀ x ∈ ss, rSe x = true) ∧ ss.Pairwise (fun a b => a.num < b.num)

theorem rw_iff (ws : List Wt) : (∀ i, i < ws.length → okWt ws i = true) ↔ RW ws := by
  constructor
  · intro h
    refine ⟨fun x hx => ?_, ?_⟩
    · obtain ⟨i, hi, rfl⟩ := List.mem_iff_getElem.1 hx
      have := h i hi
      unfold okWt at this
      rw [dif_pos hi] at this
      simp only [Bool.and_eq_true] at this
      exact this.1
    · rw [List.pairwise_iff_getElem]
      intro i j hi hj hij
      have := h j hj
      unfold okWt at this
      rw [dif_pos hj] at this
      simp only [Bool.and_eq_true, Bool.not_eq_true', List.any_eq_false] at this
      have := this.2 ws[i] (by rw [List.mem_take_iff_getElem]; exact ⟨i, by omega, rfl⟩)
      simpa [hit] using this
  · rintro ⟨h1, h2⟩ i hi
    unfold okWt
    rw [dif_pos hi]
    simp only [Bool.and_eq_true, Bool.not_eq_true', List.any_eq_false]
    refine ⟨h1 _ (List.getElem_mem hi), fun x hx => ?_⟩
    obtain ⟨j, hj, rfl⟩ := List.mem_take_iff_getElem.1 hx
    have := (List.pairwise_iff_getElem.1 h2) j i (by omega) hi (by omega)
    simpa [hit] using this
theorem rs_iff (ss : List Se) : (∀ i, i < ss.length → okSe ss i = true) ↔ RS ss := by
  constructor
  · intro h
    refine ⟨fun x hx => ?_, ?_⟩
    · obtain ⟨i, hi, rfl⟩ := List.mem_iff_getElem.1 hx
      have := h i hi
      unfold okSe at this
      rw [dif_pos hi] at this
      simp only [Bool.and_eq_true] at this
      exact this.1
    · rw [List.pairwise_iff_getElem]
      intro i j hi hj hij
      obtain ⟨k, rfl⟩ : ∃ k, j = i + 1 + k := ⟨j - (i + 1), by omega⟩
      clear hij
      have step : ∀ m (hm : m + 1 < ss.length), (ss[m]'(by omega)).num < ss[m + 1].num := fun m hm => by
        have := h (m + 1) hm
        unfold okSe at this
        rw [dif_pos hm, dif_pos (by omega)] at this
        simp only [Bool.and_eq_true, decide_eq_true_eq, Nat.add_sub_cancel] at this
        exact this.2
      induction k with
      | zero => exact step i hj
      | succ k ih => exact Int.lt_trans (ih (by omega) step) (step (i + 1 + k) (by omega))
  · rintro ⟨h1, h2⟩ i hi
    unfold okSe
    rw [dif_pos hi]
    simp only [Bool.and_eq_true]
    refine ⟨h1 _ (List.getElem_mem hi), ?_⟩
    by_cases h0 : 0 < i
    · rw [dif_pos h0]
      exact decide_eq_true ((List.pairwise_iff_getElem.1 h2) (i - 1) i (by omega) hi (by omega))
    · rw [dif_neg h0]
theorem right_iff (d : Wd) : rightW d = true ↔ d.ws.length ≤ 64 ∧ RW d.ws ∧ RS d.ss := by
  unfold rightW
  rw [decide_eq_true_iff, rw_iff, rs_iff]

/-- The session of a number. -/
def getS : List Se → Int → Option Se
  | [], _ => none
  | s :: r, n => if s.num = n then some s else getS r n
def seS (ss : List Se) (n : Int) : Se := (getS ss n).getD ⟨n, 0, []⟩
/-- A session in its place. -/
def putS : List Se → Se → List Se
  | [], s => [s]
  | x :: r, s => if x.num < s.num then x :: putS r s else if x.num = s.num then s :: r else s :: x :: r
theorem getS_some {ss : List Se} {n : Int} {s : Se} (h : getS ss n = some s) : s ∈ ss ∧ s.num = n := by
  induction ss with
  | nil => cases h
  | cons x r ih =>
    unfold getS at h
    split at h
    · injection h with h; subst h; rename_i e; exact ⟨List.mem_cons_self .., e⟩
    · exact ⟨List.mem_cons_of_mem _ (ih h).1, (ih h).2⟩
theorem getS_none {ss : List Se} {n : Int} (h : getS ss n = none) : ∀ s ∈ ss, s.num ≠ n := by
  induction ss with
  | nil => simp
  | cons x r ih =>
    unfold getS at h
    split at h
    · cases h
    · rename_i e
      intro s hs
      rcases List.mem_cons.1 hs with rfl | hs
      · exact e
      · exact ih h s hs
theorem getS_of {ss : List Se} (h : ss.Pairwise (fun a b => a.num < b.num)) {s : Se} (hs : s ∈ ss) : getS ss s.num = some s := by
  induction ss with
  | nil => cases hs
  | cons x r ih =>
    rw [List.pairwise_cons] at h
    unfold getS
    rcases List.mem_cons.1 hs with rfl | hs
    · rw [if_pos rfl]
    · rw [if_neg (by have := h.1 s hs; omega)]; exact ih h.2 hs
theorem seS_num (ss : List Se) (n : Int) : (seS ss n).num = n := by
  unfold seS
  cases h : getS ss n with
  | none => rfl
  | some s => exact (getS_some h).2
theorem mem_putS {ss : List Se} {s x : Se} (h : x ∈ putS ss s) : x = s ∨ x ∈ ss := by
  induction ss with
  | nil => exact .inl (by simpa [putS] using h)
  | cons y r ih =>
    unfold putS at h
    split at h
    · rcases List.mem_cons.1 h with rfl | h
      · exact .inr (List.mem_cons_self ..)
      · exact (ih h).imp id (List.mem_cons_of_mem _)
    · split at h
      · rcases List.mem_cons.1 h with rfl | h
        · exact .inl rfl
        · exact .inr (List.mem_cons_of_mem _ h)
      · rcases List.mem_cons.1 h with rfl | h
        · exact .inl rfl
        · exact .inr h
theorem putS_asc {ss : List Se} (h : ss.Pairwise (fun a b => a.num < b.num)) (s : Se) : (putS ss s).Pairwise (fun a b => a.num < b.num) := by
  induction ss with
  | nil => simp [putS]
  | cons y r ih =>
    have h' := h
    rw [List.pairwise_cons] at h
    unfold putS
    split
    · rename_i hy
      rw [List.pairwise_cons]
      refine ⟨fun x hx => ?_, ih h.2⟩
      rcases mem_putS hx with rfl | hx
      · exact hy
      · exact h.1 x hx
    · split
      · rename_i e
        rw [List.pairwise_cons]
        exact ⟨fun x hx => by have := h.1 x hx; omega, h.2⟩
      · rw [List.pairwise_cons]
        refine ⟨fun x hx => ?_, h'⟩
        rcases List.mem_cons.1 hx with rfl | hx
        · omega
        · have := h.1 x hx; omega
theorem putS_rs {ss : List Se} (h : RS ss) {s : Se} (hs : rSe s = true) : RS (putS ss s) :=
  ⟨fun x hx => (mem_putS hx).elim (fun e => e ▸ hs) (h.1 x), putS_asc h.2 s⟩
theorem putS_len (ss : List Se) (s : Se) : (putS ss s).length ≤ ss.length + 1 := by
  induction ss with
  | nil => simp [putS]
  | cons y r ih => unfold putS; split <;> (try split) <;> simp <;> omega
theorem getS_put {ss : List Se} (h : ss.Pairwise (fun a b => a.num < b.num)) (s : Se) (n : Int) : getS (putS ss s) n = if n = s.num then some s else getS ss n := by
  induction ss with
  | nil =>
    simp only [putS, getS]
    by_cases e : n = s.num
    · rw [if_pos e, if_pos e.symm]
    · rw [if_neg e, if_neg (fun h => e h.symm)]
  | cons y r ih =>
    have hr := (List.pairwise_cons.1 h)
    unfold putS
    split
    · rename_i hy
      simp only [getS]
      rw [ih hr.2]
      by_cases e : n = s.num
      · rw [if_pos e, if_pos e, if_neg (by omega)]
      · rw [if_neg e, if_neg e]
    · split
      · rename_i e2
        simp only [getS]
        by_cases e : n = s.num
        · rw [if_pos e, if_pos e.symm]
        · rw [if_neg e, if_neg (fun h => e h.symm), if_neg (by omega)]
      · simp only [getS]
        by_cases e : n = s.num
        · rw [if_pos e, if_pos e.symm]
        · rw [if_neg e, if_neg (fun h => e h.symm)]
theorem seS_put {ss : List Se} (h : ss.Pairwise (fun a b => a.num < b.num)) (s : Se) (n : Int) : seS (putS ss s) n = if n = s.num then s else seS ss n := by
  unfold seS
  rw [getS_put h]
  split <;> rfl
theorem putS_self {ss : List Se} (h : ss.Pairwise (fun a b => a.num < b.num)) {s : Se} (hs : s ∈ ss) : putS ss s = ss := by
  induction ss with
  | nil => cases hs
  | cons y r ih =>
    rw [List.pairwise_cons] at h
    unfold putS
    rcases List.mem_cons.1 hs with rfl | hs
    · rw [if_neg (by omega), if_pos rfl]
    · rw [if_pos (h.1 s hs), ih h.2 hs]
theorem putS_twice {ss : List Se} (h : ss.Pairwise (fun a b => a.num < b.num)) {s t : Se} (e : s.num = t.num) : putS (putS ss s) t = putS ss t := by
  induction ss with
  | nil => simp [putS, e]
  | cons y r ih =>
    rw [List.pairwise_cons] at h
    by_cases h1 : y.num < s.num
    · simp only [putS, if_pos h1, if_pos (e ▸ h1), ih h.2]
    · by_cases h2 : y.num = s.num
      · simp only [putS, if_neg h1, if_pos h2, if_neg (e ▸ h1 : ¬ y.num < t.num), if_pos (h2.trans e)]
        rw [if_neg (by omega), if_pos e]
      · simp only [putS, if_neg h1, if_neg h2, if_neg (e ▸ h1 : ¬ y.num < t.num), if_neg (fun h => h2 (h.trans e.symm) : ¬ y.num = t.num)]
        rw [if_neg (by omega), if_pos e]

theorem rSe_new {n : Int} (h : isN n = true) : rSe ⟨n, 0, []⟩ = true := by
  unfold rSe
  simp only [h, Bool.true_and, Bool.and_eq_true, decide_eq_true_eq]
  refine ⟨by unfold mxN; simp, fun i hi => by simp at hi⟩
theorem seS_right {ss : List Se} (h : RS ss) {n : Int} (hn : isN n = true) : rSe (seS ss n) = true := by
  unfold seS
  cases hg : getS ss n with
  | none => exact rSe_new hn
  | some s => exact h.1 s (getS_some hg).1

/-- An event more. -/
def awt (s : Se) (kind : Int) (p : Bs) (wt : Int) : Se := if s.count = mxN then s else ⟨s.num, s.count + 1, s.evs ++ [⟨s.count + 1, kind, p, wt⟩]⟩
/-- A watch is told: its session, and whether it stays. -/
def ntf (s : Se) (x : Wt) (kind : Int) (p : Bs) : Se × Bool :=
  if s.evs.length = 8 then (s, false) else if s.evs.length = 7 then (awt s 4 x.p x.n, false) else (awt s kind p x.n, x.d)
theorem awt_num (s : Se) (kind : Int) (p : Bs) (wt : Int) : (awt s kind p wt).num = s.num := by unfold awt; split <;> rfl
theorem ntf_num (s : Se) (x : Wt) (kind : Int) (p : Bs) : (ntf s x kind p).1.num = s.num := by
  unfold ntf
  split
  · rfl
  · split <;> exact awt_num _ _ _ _
theorem rSe_iff (s : Se) : rSe s = true ↔ isN s.num = true ∧ (0 ≤ s.count ∧ s.count ≤ mxN ∧ s.evs.length ≤ 8 ∧ (s.evs.length : Int) ≤ s.count) ∧ ∀ i (h : i < s.evs.length), rEv (s.count - s.evs.length + 1 + i) s.evs[i] = true := by
  unfold rSe
  rw [Bool.and_eq_true, Bool.and_eq_true, decide_eq_true_eq, decide_eq_true_eq, and_assoc]
theorem awt_right {s : Se} (h : rSe s = true) (hl : s.evs.length < 8) {kind : Int} {p : Bs} {wt : Int} (hk : 1 ≤ kind ∧ kind ≤ 4) (hp : (split p).isSome = true) (hw : isN wt = true) : rSe (awt s kind p wt) = true := by
  have h0 := h
  rw [rSe_iff] at h
  obtain ⟨h1, ⟨h2, h3, h4, h5⟩, h6⟩ := h
  unfold awt
  split
  · exact h0
  · rename_i hc
    rw [rSe_iff]
    refine ⟨h1, ⟨by simp only; omega, by simp only; omega, by simp only [List.length_append, List.length_cons, List.length_nil]; omega, by simp only [List.length_append, List.length_cons, List.length_nil]; omega⟩, fun i hi => ?_⟩
    simp only [List.length_append, List.length_cons, List.length_nil] at hi ⊢
    by_cases hil : i < s.evs.length
    · rw [List.getElem_append_left hil]
      have := h6 i hil
      rw [show s.count + 1 - ((s.evs.length + (0 + 1) : Nat) : Int) + 1 + (i : Int) = s.count - s.evs.length + 1 + i from by omega]
      exact this
    · have hie : i = s.evs.length := by omega
      subst hie
      rw [List.getElem_append_right (Nat.le_refl _)]
      simp only [Nat.sub_self, List.getElem_cons_zero]
      unfold rEv
      simp only [Bool.and_eq_true, decide_eq_true_eq]
      exact ⟨⟨⟨by omega, hk⟩, hp⟩, hw⟩
theorem rWt_iff (x : Wt) : rWt x = true ↔ isN x.s = true ∧ isN x.n = true ∧ (split x.p).isSome = true := by
  unfold rWt
  rw [Bool.and_eq_true, Bool.and_eq_true, and_assoc]
theorem ntf_right {s : Se} (h : rSe s = true) {x : Wt} (hx : rWt x = true) {kind : Int} (hk : 1 ≤ kind ∧ kind ≤ 3) {p : Bs} (hp : (split p).isSome = true) : rSe (ntf s x kind p).1 = true := by
  have hl := ((rSe_iff s).1 h).2.1.2.2.1
  obtain ⟨_, hn, hxp⟩ := (rWt_iff x).1 hx
  unfold ntf
  split
  · exact h
  · split
    · exact awt_right h (by omega) ⟨by omega, by omega⟩ hxp hn
    · exact awt_right h (by omega) ⟨by omega, by omega⟩ hp hn

/-- Is the watch of the change? -/
def ofCh (p : Bs) (x : Wt) : Bool := decide (x.p = p) || (x.d && inB p x.p)
/-- One watch of Tell: those that stay so far, and the sessions. -/
def tst (kind : Int) (p : Bs) (a : List Wt × List Se) (x : Wt) : List Wt × List Se :=
  if ofCh p x then ((if (ntf (seS a.2 x.s) x kind p).2 then a.1 ++ [x] else a.1), putS a.2 (ntf (seS a.2 x.s) x kind p).1) else (a.1 ++ [x], a.2)
def tellL (kind : Int) (p : Bs) (ws : List Wt) (ss : List Se) : List Wt × List Se := ws.foldl (tst kind p) ([], ss)
theorem tell_succ (kind : Int) (p : Bs) (ws : List Wt) (ss : List Se) (i : Nat) (h : i < ws.length) : tellL kind p (ws.take (i + 1)) ss = tst kind p (tellL kind p (ws.take i) ss) ws[i] := by
  unfold tellL
  rw [List.take_succ_eq_append_getElem h, List.foldl_append]; rfl
theorem tst_rs {kind : Int} (hk : 1 ≤ kind ∧ kind ≤ 3) {p : Bs} (hp : (split p).isSome = true) {a : List Wt × List Se} (h : RS a.2) {x : Wt} (hx : rWt x = true) : RS (tst kind p a x).2 := by
  unfold tst
  split
  · exact putS_rs h (ntf_right (seS_right h ((rWt_iff x).1 hx).1) hx hk hp)
  · exact h
theorem tell_rs {kind : Int} (hk : 1 ≤ kind ∧ kind ≤ 3) {p : Bs} (hp : (split p).isSome = true) {ws : List Wt} (hw : ∀ x ∈ ws, rWt x = true) {ss : List Se} (h : RS ss) (i : Nat) (hi : i ≤ ws.length) : RS (tellL kind p (ws.take i) ss).2 := by
  induction i with
  | zero => simpa [tellL] using h
  | succ i ih =>
    rw [tell_succ _ _ _ _ i (by omega)]
    exact tst_rs hk hp (ih (by omega)) (hw _ (List.getElem_mem _))
theorem tell_sub (kind : Int) (p : Bs) (ws : List Wt) (ss : List Se) (i : Nat) (hi : i ≤ ws.length) : List.Sublist (tellL kind p (ws.take i) ss).1 (ws.take i) := by
  induction i with
  | zero => simp [tellL]
  | succ i ih =>
    rw [tell_succ _ _ _ _ i (by omega), List.take_succ_eq_append_getElem (by omega)]
    unfold tst
    have h := ih (by omega)
    split
    · dsimp only
      split
      · exact h.append (List.Sublist.refl _)
      · exact h.trans (List.sublist_append_left _ _)
    · exact h.append (List.Sublist.refl _)
theorem tell_len (kind : Int) (p : Bs) (ws : List Wt) (ss : List Se) (i : Nat) (hi : i ≤ ws.length) : (tellL kind p (ws.take i) ss).2.length ≤ ss.length + i := by
  induction i with
  | zero => simp [tellL]
  | succ i ih =>
    rw [tell_succ _ _ _ _ i (by omega)]
    have h := ih (by omega)
    unfold tst
    split
    · have := putS_len (tellL kind p (ws.take i) ss).2 (ntf (seS (tellL kind p (ws.take i) ss).2 ws[i].s) ws[i] kind p).1
      dsimp only; omega
    · dsimp only; omega
theorem RW.sub {a b : List Wt} (h : RW b) (s : List.Sublist a b) : RW a := ⟨fun x hx => h.1 x (s.subset hx), h.2.sublist s⟩

/-- What the four calls make of it, and the error. -/
def addM (d : Wd) (x : Wt) : Wd × Int :=
  if rightW d = true ∧ rWt x = true then
    if d.ws.any (hit x.s x.n) then (d, 61) else if d.ws.length = 64 then (d, 2) else (⟨d.ws ++ [x], putS d.ss (seS d.ss x.s)⟩, 0)
  else (⟨[], []⟩, 1)
def closeM (d : Wd) (s n : Int) : Wd × Int :=
  if rightW d = true then if d.ws.any (hit s n) then (⟨d.ws.filter (fun x => !hit s n x), d.ss⟩, 0) else (d, 62) else (⟨[], []⟩, 1)
def tellM (d : Wd) (kind : Int) (p : Bs) : Wd × Int :=
  if rightW d = true ∧ (1 ≤ kind ∧ kind ≤ 3) ∧ (split p).isSome = true then (⟨(tellL kind p d.ws d.ss).1, (tellL kind p d.ws d.ss).2⟩, 0) else (⟨[], []⟩, 1)
def cutE (upTo : Int) (l : List Ev) : List Ev := l.filter (fun e => decide (upTo < e.num))
def takeM (d : Wd) (n upTo : Int) : Wd × List Ev × Int :=
  if rightW d = true then
    match getS d.ss n with
    | none => (d, [], 62)
    | some s => (⟨d.ws, putS d.ss ⟨s.num, s.count, cutE upTo s.evs⟩⟩, cutE upTo s.evs, 0)
  else (⟨[], []⟩, [], 1)

theorem cutE_right {s : Se} (h : rSe s = true) (upTo : Int) : ∃ k, k ≤ s.evs.length ∧ cutE upTo s.evs = s.evs.drop k ∧ (∀ i (hi : i < s.evs.length), (i < k ↔ s.evs[i].num ≤ upTo)) := by
  obtain ⟨q1, q2, h6⟩ := (rSe_iff s).1 h
  clear q1 q2
  have hn : ∀ i (hi : i < s.evs.length), s.evs[i].num = s.count - s.evs.length + 1 + i := fun i hi => by
    have := h6 i hi
    unfold rEv at this
    simp only [Bool.and_eq_true, decide_eq_true_eq] at this
    exact this.1.1.1
  generalize s.count - (s.evs.length : Int) + 1 = b at hn
  clear h6
  generalize s.evs = l at *
  clear h
  induction l generalizing b with
  | nil => exact ⟨0, by simp, by simp [cutE], fun i hi => by simp at hi⟩
  | cons e r ih =>
    have h0 := hn 0 (by simp)
    simp only [List.getElem_cons_zero] at h0
    by_cases hu : upTo < e.num
    · refine ⟨0, by simp, ?_, fun i hi => ?_⟩
      · rw [List.drop_zero]
        unfold cutE
        rw [List.filter_eq_self]
        intro x hx
        obtain ⟨i, hi, rfl⟩ := List.mem_iff_getElem.1 hx
        have := hn i hi
        exact decide_eq_true (by omega)
      · have := hn i hi
        constructor
        · intro h; omega
        · intro h; omega
    · obtain ⟨k, k1, k2, k3⟩ := ih (b + 1) (fun i hi => by have := hn (i + 1) (by simpa using hi); simp only [List.getElem_cons_succ] at this; rw [this]; push_cast; omega)
      refine ⟨k + 1, by simp; omega, ?_, fun i hi => ?_⟩
      · rw [List.drop_succ_cons, ← k2]
        unfold cutE
        rw [List.filter_cons, if_neg (by simpa using hu)]
      · cases i with
        | zero => simp only [List.getElem_cons_zero]; constructor <;> intro h <;> omega
        | succ i =>
          have := k3 i (by simpa using hi)
          simp only [List.getElem_cons_succ]
          rw [← this]; omega
theorem cut_right {s : Se} (h : rSe s = true) (upTo : Int) : rSe ⟨s.num, s.count, cutE upTo s.evs⟩ = true := by
  obtain ⟨k, k1, k2, _⟩ := cutE_right h upTo
  rw [k2]
  rw [rSe_iff] at h ⊢
  obtain ⟨h1, ⟨h2, h3, h4, h5⟩, h6⟩ := h
  refine ⟨h1, ⟨h2, h3, by simp only [List.length_drop]; omega, by simp only [List.length_drop]; omega⟩, fun i hi => ?_⟩
  simp only [List.length_drop] at hi ⊢
  rw [List.getElem_drop]
  have := h6 (k + i) (by omega)
  rw [show s.count - ((s.evs.length - k : Nat) : Int) + 1 + (i : Int) = s.count - s.evs.length + 1 + ((k + i : Nat) : Int) from by omega]
  exact this

theorem add_right (d : Wd) (x : Wt) (h : rightW d = true) : rightW (addM d x).1 = true := by
  obtain ⟨h1, h2, h3⟩ := (right_iff d).1 h
  unfold addM
  split
  · rename_i hx
    split
    · exact h
    · split
      · exact h
      · rename_i ha hl
        rw [right_iff]
        refine ⟨by simp; omega, ⟨fun y hy => ?_, ?_⟩, putS_rs h3 (seS_right h3 ((rWt_iff x).1 hx.2).1)⟩
        · rcases List.mem_append.1 hy with hy | hy
          · exact h2.1 y hy
          · rw [List.mem_singleton.1 hy]; exact hx.2
        · rw [List.pairwise_append]
          refine ⟨h2.2, by simp, fun a ha' b hb => ?_⟩
          rw [List.mem_singleton.1 hb]
          intro hh
          exact ha (List.any_eq_true.2 ⟨a, ha', by simpa [hit] using hh⟩)
  · rw [right_iff]; exact ⟨by simp, ⟨by simp, by simp⟩, by simp, by simp⟩
theorem close_right (d : Wd) (s n : Int) (h : rightW d = true) : rightW (closeM d s n).1 = true := by
  obtain ⟨h1, h2, h3⟩ := (right_iff d).1 h
  unfold closeM
  rw [if_pos h]
  split
  · rw [right_iff]
    exact ⟨Nat.le_trans (List.length_filter_le _ _) h1, h2.sub List.filter_sublist, h3⟩
  · exact h
theorem nil_right : rightW ⟨[], []⟩ = true := by decide
theorem tell_right (d : Wd) (kind : Int) (p : Bs) (h : rightW d = true) : rightW (tellM d kind p).1 = true := by
  obtain ⟨h1, h2, h3⟩ := (right_iff d).1 h
  unfold tellM
  split
  · rename_i hx
    have hs := tell_sub kind p d.ws d.ss d.ws.length (Nat.le_refl _)
    have hr := tell_rs hx.2.1 hx.2.2 h2.1 h3 d.ws.length (Nat.le_refl _)
    rw [List.take_length] at hs hr
    rw [right_iff]
    exact ⟨Nat.le_trans hs.length_le h1, h2.sub hs, hr⟩
  · exact nil_right
theorem take_right (d : Wd) (n upTo : Int) (h : rightW d = true) : rightW (takeM d n upTo).1 = true := by
  obtain ⟨h1, h2, h3⟩ := (right_iff d).1 h
  unfold takeM
  rw [if_pos h]
  split
  · exact h
  · rename_i s hs
    rw [right_iff]
    exact ⟨h1, h2, putS_rs h3 (cut_right (h3.1 s (getS_some hs).1) upTo)⟩
end Go.Proofs.Ytjdpbieifcjmiaa
