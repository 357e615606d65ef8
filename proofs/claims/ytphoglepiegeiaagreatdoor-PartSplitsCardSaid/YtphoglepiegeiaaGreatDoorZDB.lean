/- A text of this proof. -/
import Derived.BigQuiet
import Derived.Deep.QuietTactic
import Derived.Lib.Hide
import Derived.WalkKit
import Derived.WalkLawsBesides
import Derived.WalkSpells
import Derived.Test.YtphoglepiegeiaaGreatDoorProg
import Derived.Test.YtphoglepiegeiaaGreatDoorZDA
set_option linter.unusedSimpArgs false
set_option linter.unusedVariables false
namespace Go.Proofs.YtphoglepiegeiaaGreatDoor
set_option maxRecDepth 20000
namespace Pm
structure Tr (l : List Nd) : Prop where
 most : l.length ≤ 512
 root : ∃ r, find l [47] = some r ∧ r.own = 0
 fit : ∀ n ∈ l, fitsB n = true
 asc : Asc l
 lie : ∀ n ∈ l, n.path ≠ [47] → lies l n = true
theorem lies_some {l : List Nd} {n : Nd} (h : lies l n = true) : ∃ u x, parent n.path = some u ∧ find l u = some x ∧ x.own = 0 := by
 unfold lies at h
 split at h
 ·rename_i u hu
  unfold free at h
  split at h
  ·rename_i x hx
   exact ⟨u, x, hu, hx, by simpa using h⟩
  cases h
 cases h
theorem lies_of {l : List Nd} {n : Nd} {u : Bs} {x : Nd} (h : parent n.path = some u) (hx : find l u = some x) (h0 : x.own = 0) : lies l n = true := by
 unfold lies free; rw [h]; simp only; rw [hx]; simpa using h0
theorem Tree.tr {l : List Nd} (h : Tree l) : Tr l := by
 refine ⟨h.most, ⟨l[0]'h.pos, ?_, h.free⟩, ?_, h.asc, ?_⟩
 ·rw [find_iff h.asc]; exact ⟨List.getElem_mem _, h.root⟩
 ·intro n hn
  obtain ⟨i, hi, rfl⟩ := List.getElem_of_mem hn
  exact h.fit i hi
 intro n hn hne
 obtain ⟨i, hi, rfl⟩ := List.getElem_of_mem hn
 refine h.lie i hi ?_
 rcases Nat.eq_zero_or_pos i with rfl | k
 ·exact absurd h.root hne
 exact k
theorem Tr.tree {l : List Nd} (h : Tr l) : Tree l := by
 obtain ⟨r, hr, hr0⟩ := h.root
 obtain ⟨hm, hp⟩ := find_mem hr
 have hpos : 0 < l.length := List.length_pos_of_mem hm
 have h0 : (l[0]'hpos).path = [47] := by
  by_cases e : (l[0]'hpos).path = [47]
  ·exact e
  obtain ⟨u, x, hu, hx, _⟩ := lies_some (h.lie _ (List.getElem_mem hpos) e)
  obtain ⟨hxm, rfl⟩ := find_mem hx
  have := parent_lt hu
  obtain ⟨i, hi, rfl⟩ := List.getElem_of_mem hxm
  rcases Nat.eq_zero_or_pos i with rfl | k
  ·rw [lt_irrefl] at this; cases this
  have k2 := lt_asymm (h.asc 0 i hpos hi k); rw [k2] at this; cases this
 have e0 : r = l[0]'hpos := by
  have := find_of h.asc (List.getElem_mem hpos)
  rw [h0, hr] at this; exact Option.some.inj this
 refine ⟨hpos, h.most, h0, e0 ▸ hr0, fun i hi => h.fit _ (List.getElem_mem hi), h.asc.step, fun i hi hpos' => h.lie _ (List.getElem_mem hi) ?_⟩
 intro e
 have := h.asc 0 i hpos hi hpos'
 rw [h0, e, lt_irrefl] at this; cases this
def Chk (l : List Nd) (i : Nat) (h : i < l.length) : Prop := fitsB l[i] = true ∧ (0 < i → (∀ h' : i - 1 < l.length, lt l[i-1].path l[i].path = true) ∧ lies (l.take i) l[i] = true)
theorem find_take {l : List Nd} {i : Nat} {p : Bs} {x : Nd} (h : find (l.take i) p = some x) : find l p = some x := by
 unfold find at h ⊢
 rw [← List.take_append_drop i l, List.find?_append, h]; rfl
theorem lies_take {l : List Nd} {i : Nat} {n : Nd} (h : lies (l.take i) n = true) : lies l n = true := by
 obtain ⟨u, x, h1, h2, h3⟩ := lies_some h
 exact lies_of h1 (find_take h2) h3
theorem Tree.lies_take {l : List Nd} (h : Tree l) {i : Nat} (hi : i < l.length) (h0 : 0 < i) : lies (l.take i) l[i] = true := by
 obtain ⟨u, x, h1, h2, h3⟩ := lies_some (h.lie i hi h0)
 refine lies_of h1 ?_ h3
 obtain ⟨hm, rfl⟩ := find_mem h2
 have hA : Asc (l.take i) := asc_iff.2 ((asc_iff.1 h.asc).take)
 refine find_of hA ?_
 obtain ⟨j, hj, rfl⟩ := List.getElem_of_mem hm
 have hlt := parent_lt h1
 have hji : j < i := by
  rcases Nat.lt_or_ge j i with k | k
  ·exact k
  rcases Nat.eq_or_lt_of_le k with rfl | k
  ·rw [lt_irrefl] at hlt; cases hlt
  have := lt_asymm (h.asc i j hi hj k); rw [hlt] at this; cases this
 rw [List.mem_iff_getElem]
 exact ⟨j, by simp; omega, by rw [List.getElem_take]⟩
theorem tree_of_chk {l : List Nd} (hpos : 0 < l.length) (hm : l.length ≤ 512) (h0 : (l[0]'hpos).path = [47]) (hf : (l[0]'hpos).own = 0) (h : ∀ i (hi : i < l.length), Chk l i hi) : Tree l :=
 ⟨hpos, hm, h0, hf, fun i hi => (h i hi).1, fun i hi => by have := ((h (i + 1) hi).2 (by omega)).1 (by omega); simpa using this, fun i hi hp => Pm.lies_take ((h i hi).2 hp).2⟩
theorem Tree.chk {l : List Nd} (h : Tree l) (i : Nat) (hi : i < l.length) : Chk l i hi :=
 ⟨h.fit i hi, fun hp => ⟨fun h' => by have := h.up (i - 1) (by omega); simpa only [show i - 1 + 1 = i from by omega] using this, h.lies_take hi hp⟩⟩
theorem fits_iff (n : Nd) : fitsB n = true ↔ n.data.length ≤ 256 ∧ 0 ≤ n.ver ∧ n.ver ≤ 281474976710656 ∧ 0 ≤ n.turn ∧ n.turn ≤ 10000 ∧ 0 ≤ n.own ∧ n.own ≤ 1099511627776 ∧ (n.own = 0 ∨ n.turn = 0) := by
 unfold fitsB; simp
theorem Tr.set {l : List Nd} (h : Tr l) {i : Nat} (hi : i < l.length) (y : Nd) (hp : y.path = l[i].path) (ho : y.own = l[i].own) (hf : fitsB y = true) : Tr (l.set i y) := by
 have hfs := find_set h.asc hi y hp
 have hin := find_of h.asc (List.getElem_mem hi)
 have key : ∀ p x, find l p = some x → ∃ z, find (l.set i y) p = some z ∧ z.own = x.own := by
  intro p x hx
  rw [hfs]
  split
  ·rename_i e
   refine ⟨y, rfl, ?_⟩
   rw [e, hp, hin] at hx
   rw [ho, Option.some.inj hx]
  exact ⟨x, hx, rfl⟩
 refine ⟨by rw [List.length_set]; exact h.most, ?_, ?_, h.asc.set hi y hp, ?_⟩
 ·obtain ⟨r, hr, h0⟩ := h.root
  obtain ⟨z, hz, e⟩ := key _ _ hr
  exact ⟨z, hz, by rw [e]; exact h0⟩
 ·intro n hn
  rcases List.mem_or_eq_of_mem_set hn with k | rfl
  ·exact h.fit n k
  exact hf
 intro n hn hne
 have : ∃ m ∈ l, m.path = n.path := by
  rcases List.mem_or_eq_of_mem_set hn with k | rfl
  ·exact ⟨n, k, rfl⟩
  exact ⟨l[i], List.getElem_mem hi, hp.symm⟩
 obtain ⟨m, hm, e⟩ := this
 obtain ⟨u, x, h1, h2, h3⟩ := lies_some (h.lie m hm (e ▸ hne))
 obtain ⟨z, hz, e2⟩ := key _ _ h2
 exact lies_of (e ▸ h1) hz (by rw [e2]; exact h3)
theorem Tr.ins {l : List Nd} (h : Tr l) (x : Nd) (hn : find l x.path = none) (hl : lies l x = true) (hf : fitsB x = true) (hm : l.length < 512) : Tr (ins l (place l x.path) x) := by
 have hfi := find_ins h.asc x hn
 have key : ∀ p y, find l p = some y → find (Pm.ins l (place l x.path) x) p = some y := by
  intro p y hy
  rw [hfi, if_neg]
  ·exact hy
  rintro rfl; rw [hn] at hy; cases hy
 refine ⟨by rw [ins_length]; omega, ?_, ?_, h.asc.ins x hn, ?_⟩
 ·obtain ⟨r, hr, h0⟩ := h.root
  exact ⟨r, key _ _ hr, h0⟩
 ·intro n hn'
  rcases mem_ins.1 hn' with rfl | k
  ·exact hf
  exact h.fit n k
 intro n hn' hne
 have : lies l n = true := by
  rcases mem_ins.1 hn' with rfl | k
  ·exact hl
  exact h.lie n k hne
 obtain ⟨u, y, h1, h2, h3⟩ := lies_some this
 exact lies_of h1 (key _ _ h2) h3
theorem Tr.filter {l : List Nd} (h : Tr l) (q : Nd → Bool) (hr : ∀ n ∈ l, n.path = [47] → q n = true) (hp : ∀ n ∈ l, ∀ m ∈ l, parent n.path = some m.path → q n = true → q m = true) : Tr (l.filter q) := by
 have hA := h.asc.filter q
 refine ⟨Nat.le_trans (List.length_filter_le _ _) h.most, ?_, ?_, hA, ?_⟩
 ·obtain ⟨r, h1, h0⟩ := h.root
  obtain ⟨hm, e⟩ := find_mem h1
  refine ⟨r, ?_, h0⟩
  rw [find_iff hA]
  exact ⟨List.mem_filter.2 ⟨hm, hr r hm e⟩, e⟩
 ·intro n hn; exact h.fit n (List.mem_filter.1 hn).1
 intro n hn hne
 obtain ⟨hn1, hn2⟩ := List.mem_filter.1 hn
 obtain ⟨u, x, h1, h2, h3⟩ := lies_some (h.lie n hn1 hne)
 obtain ⟨hxm, rfl⟩ := find_mem h2
 refine lies_of h1 ?_ h3
 rw [find_iff hA]
 exact ⟨List.mem_filter.2 ⟨hxm, hp n hn1 x hxm h1 hn2⟩, rfl⟩
theorem mem_kids {l : List Nd} {p : Bs} {n : Nd} : n ∈ kids l p ↔ n ∈ l ∧ parent n.path = some p := by
 unfold kids; rw [List.mem_filter]; simp
theorem may_split {o : Opn} (h : may o = true) : (split o.path).isSome = true := by
 unfold may at h; simp only [Bool.and_eq_true] at h; exact h.1.1
theorem may_own {o : Opn} (h : may o = true) : o.data.length ≤ 256 ∧ 0 ≤ o.own ∧ o.own ≤ 1099511627776 := by
 unfold may at h; simp only [Bool.and_eq_true, decide_eq_true_eq] at h; exact h.1.2
theorem may_kind {o : Opn} (h : may o = true) : o.kind = 1 ∨ o.kind = 2 ∨ o.kind = 3 ∨ o.kind = 4 ∨ o.kind = 5 ∨ o.kind = 6 ∨ o.kind = 7 := by
 unfold may at h; simp only [Bool.and_eq_true] at h
 have := h.2
 split at this
 ·exact .inl ‹_›
 split at this
 ·exact .inr (.inl ‹_›)
 split at this
 ·exact .inr (.inr (.inl ‹_›))
 split at this
 ·exact .inr (.inr (.inr (.inl ‹_›)))
 split at this
 ·rename_i k; rcases k with k | k
  ·exact .inr (.inr (.inr (.inr (.inl k))))
  exact .inr (.inr (.inr (.inr (.inr (.inl k)))))
 split at this
 ·exact .inr (.inr (.inr (.inr (.inr (.inr ‹_›)))))
 cases this
theorem may_parent {o : Opn} (h : may o = true) (hk : o.kind = 1 ∨ o.kind = 2) : ∃ u, parent o.path = some u := by
 cases hp : parent o.path with
 | some u => exact ⟨u, rfl⟩
 | none => ?_
 have h1 := (parent_none hp).1
 rw [may_split h] at h1
 have h2 : o.path = [47] := by simpa using h1.symm
 unfold may at h
 rcases hk with hk | hk <;> simp [hk, h2] at h
theorem named_parent {o : Opn} {u p : Bs} {t : Int} (hu : parent o.path = some u) (h : named o u t = some p) : parent p = some u := by
 unfold named at h
 split at h
 ·cases hn : numbered (last o.path) t with
  | none => rw [hn] at h; cases h
  | some q =>
   rw [hn] at h
   obtain ⟨_, _, h1, _, _⟩ := join_some (show join u q = some p from h)
   exact h1
 rw [← Option.some.inj h]; exact hu
theorem parent_ne_root {p u : Bs} (h : parent p = some u) : p ≠ [47] := by rintro rfl; cases h
theorem numbered_turn {p q : Bs} {t : Int} (h : numbered p t = some q) : 0 ≤ t ∧ t ≤ 9999 := by
 unfold numbered at h; split at h
 ·rename_i k; exact ⟨k.1, k.2.1⟩
 cases h
structure Made (l : List Nd) (o : Opn) (a : List Nd) (r : Res) : Prop where
 ex : ∃ u x p, parent o.path = some u ∧ find l u = some x ∧ x.own = 0 ∧ named o u x.turn = some p ∧ find l p = none ∧ l.length < 512 ∧ parent p = some u ∧
  a = ins (if o.turns = true then l.set (place l u) { x with turn := x.turn + 1 } else l) (place l p) ⟨p, o.data, 0, 0, o.own⟩ ∧ r = ⟨0, p, [], 0, []⟩
theorem create_ways {l : List Nd} {o : Opn} (h : may o = true) (hk : o.kind = 1) (hm : l.length ≤ 512) :
  ((create l o).1 = l ∧ ∃ e, (create l o).2 = .bad e ∧ e ≠ 0 ∧ e ≠ 1) ∨ Made l o (create l o).1 (create l o).2 := by
 obtain ⟨u, hu⟩ := may_parent h (.inl hk)
 unfold create
 simp only [hu, Option.getD_some]
 cases hf : find l u with
 | none => exact .inl ⟨rfl, _, rfl, by decide, by decide⟩
 | some x => ?_
 simp only
 by_cases h0 : x.own = 0
 ·rw [if_neg (by simpa using h0)]
  cases hn : named o u x.turn with
  | none => exact .inl ⟨rfl, _, rfl, by decide, by decide⟩
  | some p => ?_
  simp only
  by_cases hp : (find l p).isSome = true
  ·rw [if_pos hp]; exact .inl ⟨rfl, _, rfl, by decide, by decide⟩
  rw [if_neg hp]
  by_cases hl : l.length = 512
  ·rw [if_pos hl]; exact .inl ⟨rfl, _, rfl, by decide, by decide⟩
  rw [if_neg hl]
  exact .inr ⟨u, x, p, hu, hf, h0, hn, by simpa using hp, by omega, named_parent hu hn, rfl, rfl⟩
 rw [if_pos h0]; exact .inl ⟨rfl, _, rfl, by decide, by decide⟩
theorem place_set {l : List Nd} {i : Nat} (hi : i < l.length) (y : Nd) (h : y.path = l[i].path) (p : Bs) : place (l.set i y) p = place l p := by
 unfold place
 induction l generalizing i with
 | nil => simp at hi
 | cons a l ih =>
  cases i with
  | zero => rw [List.set_cons_zero, List.countP_cons, List.countP_cons, h]; rfl
  | succ i => rw [List.set_cons_succ, List.countP_cons, List.countP_cons, ih (by simpa using hi) h]
theorem Tr.turned {l : List Nd} (h : Tr l) {o : Opn} {u p : Bs} {x : Nd} (hx : find l u = some x) (h0 : x.own = 0) (hn : named o u x.turn = some p) :
  Tr (if o.turns = true then l.set (place l u) { x with turn := x.turn + 1 } else l) := by
 split
 ·rename_i ht
  obtain ⟨hk, e⟩ := find_at h.asc hx
  have hf := (fits_iff x).1 (h.fit x (find_mem hx).1)
  unfold named at hn
  rw [if_pos ht] at hn
  cases hq : numbered (last o.path) x.turn with
  | none => rw [hq] at hn; cases hn
  | some q => ?_
  have := numbered_turn hq
  refine h.set hk _ (by rw [e]) (by rw [e]) ?_
  rw [fits_iff]; simp only; omega
 exact h
theorem turned_facts {l : List Nd} (h : Tr l) {o : Opn} {u : Bs} {x : Nd} (hx : find l u = some x) :
  (∀ p, find (if o.turns = true then l.set (place l u) { x with turn := x.turn + 1 } else l) p = if o.turns = true ∧ p = u then some { x with turn := x.turn + 1 } else find l p) ∧
  (∀ p, place (if o.turns = true then l.set (place l u) { x with turn := x.turn + 1 } else l) p = place l p) ∧
  (if o.turns = true then l.set (place l u) { x with turn := x.turn + 1 } else l).length = l.length := by
 obtain ⟨hk, e⟩ := find_at h.asc hx
 have hp := (find_mem hx).2
 split
 ·rename_i ht
  refine ⟨fun p => ?_, fun p => place_set hk _ (by rw [e]) p, List.length_set ..⟩
  rw [find_set h.asc hk _ (by rw [e])]
  simp [ht, hp]
 rename_i ht
 exact ⟨fun p => by simp [ht], fun p => rfl, rfl⟩
theorem Made.tr {l : List Nd} {o : Opn} {a : List Nd} {r : Res} (h : Tr l) (hmay : may o = true) (m : Made l o a r) : Tr a := by
 obtain ⟨u, x, p, hu, hx, h0, hn, hp, hl, hpu, rfl, rfl⟩ := m.ex
 have hT := h.turned hx h0 hn
 obtain ⟨f1, f2, f3⟩ := turned_facts (o := o) h hx
 have hup : p ≠ u := fun e => by have := parent_lt hpu; rw [e, lt_irrefl] at this; cases this
 rw [← f2 p]
 refine hT.ins ⟨p, o.data, 0, 0, o.own⟩ ?_ ?_ ?_ (by rw [f3]; exact hl)
 ·rw [f1, if_neg (fun k => hup k.2)]; exact hp
 ·by_cases ht : o.turns = true
  ·exact lies_of (x := { x with turn := x.turn + 1 }) hpu (by rw [f1, if_pos ⟨ht, rfl⟩]) h0
  exact lies_of hpu (by rw [f1, if_neg (fun k => ht k.1)]; exact hx) h0
 have := may_own hmay; rw [fits_iff]; refine ⟨this.1, Int.le_refl 0, ?_, Int.le_refl 0, ?_, this.2.1, this.2.2, .inr rfl⟩
 ·show (0 : Int) ≤ _; decide
 show (0 : Int) ≤ _; decide
theorem filter_erase {l : List Nd} (h : Asc l) {p : Bs} {x : Nd} (hx : find l p = some x) : l.eraseIdx (place l p) = l.filter (fun n => n.path != p) := by
 obtain ⟨hk, e⟩ := find_at h hx
 exact (erase_eq h hk (by rw [e]; exact (find_mem hx).2)).symm
theorem doit_tr {l : List Nd} {o : Opn} {x : Nd} (h : Tr l) (hmay : may o = true) (hk : o.kind ≠ 1) (hx : find l o.path = some x) : Tr (doit l o x).1 := by
 unfold doit
 split
 ·rename_i k2
  split
  ·rename_i hc
   show Tr (l.eraseIdx (place l o.path))
   rw [filter_erase h.asc hx]
   obtain ⟨u, hu⟩ := may_parent hmay (.inr k2)
   refine h.filter _ (fun n _ e => ?_) (fun n hn m hm e _ => ?_)
   ·simp only [bne_iff_ne]; rw [e]; exact fun k => parent_ne_root hu k.symm
   simp only [bne_iff_ne]; intro k
   have : n ∈ kids l o.path := mem_kids.2 ⟨hn, by rw [e, k]⟩
   rw [hc] at this; simp at this
  exact h
 split
 ·split
  ·exact h
  rename_i k3 hv
  obtain ⟨hk, e⟩ := find_at h.asc hx
  have hf := (fits_iff x).1 (h.fit x (find_mem hx).1)
  have := may_own hmay
  refine h.set hk _ (by rw [e]) (by rw [e]) ?_
  rw [fits_iff]; simp only; omega
 split
 ·exact h
 split
 ·exact h
 split
 ·exact h
 rename_i k2 k3 k4 k5 k6
 have k7 : o.kind = 7 := by have := may_kind hmay; omega
 have hown : o.own ≠ 0 := by
  unfold may at hmay; simp only [Bool.and_eq_true] at hmay
  have := hmay.2
  simp [k7] at this; omega
 refine h.filter _ (fun n hn e => ?_) (fun n hn m hm e _ => ?_)
 ·simp only [swept, e, parent_root, Bool.not_eq_true', Bool.and_eq_false_iff]; right; rfl
 have hne : n.path ≠ [47] := parent_ne_root e
 obtain ⟨v, y, h1, h2, h3⟩ := lies_some (h.lie n hn hne)
 rw [e] at h1
 obtain rfl := Option.some.inj h1
 have := find_of h.asc hm
 rw [h2] at this
 obtain rfl := Option.some.inj this
 simp only [swept, Bool.not_eq_true', Bool.and_eq_false_iff]; left
 rw [h3]; simpa using fun k => hown k.symm
theorem perform_tr {l : List Nd} {o : Opn} (h : Tr l) (hmay : may o = true) : Tr (perform l o).1 := by
 unfold perform
 split
 ·rename_i k
  rcases create_ways hmay k h.most with ⟨e, _⟩ | m
  ·rw [e]; exact h
  exact m.tr h hmay
 rename_i k
 split
 ·exact h
 rename_i x hx
 split
 ·exact h
 exact doit_tr h hmay k hx
end Pm
namespace Pm
theorem Tr.valid {l : List Nd} (h : Tr l) {n : Nd} (hn : n ∈ l) : ∃ ps, split n.path = some ps := by
 by_cases e : n.path = [47]
 ·rw [e]; exact ⟨[], rfl⟩
 obtain ⟨u, x, h1, _, _⟩ := lies_some (h.lie n hn e)
 obtain ⟨ps, hs, _⟩ := parent_some h1
 exact ⟨ps, hs⟩
theorem Tr.refl {l : List Nd} (h : Tr l) {n : Nd} (hn : n ∈ l) : inB n.path n.path = true := by
 obtain ⟨ps, hs⟩ := h.valid hn; exact in_refl hs
def pre : List Bs → Bs
 | [] => [47]
 | p :: r => flat (p :: r) ++ [47]
end Pm
namespace Pm
structure Tu where
 dir : Bs
 next : Int
deriving DecidableEq
structure St where
 nodes : List Nd
 turns : List Tu
deriving DecidableEq
structure Pt where
 kind : Int
 dir : Bs
 path : Bs
 data : Bs
 ver : Int
 own : Int
 turns : Bool
deriving DecidableEq
def upB (p : Bs) : Bs := (parent p).getD [47]
def keptAt (k : Int) (p : Bs) : Bs := if k = 4 ∨ k = 9 ∨ k = 10 then p else upB p
def mayP (x : Pt) : Bool :=
 decide (1 ≤ x.kind ∧ x.kind ≤ 10) && (split x.path).isSome && decide (x.dir = keptAt x.kind x.path) && decide (¬ (x.kind = 2 ∧ x.path = [47])) &&
 decide (x.data.length ≤ 256 ∧ -1 ≤ x.ver ∧ x.ver ≤ 281474976710656 ∧ 0 ≤ x.own ∧ x.own ≤ 1099511627776)
def sfit (n : Nd) : Bool :=
 (split n.path).isSome && decide (n.data.length ≤ 256 ∧ n.turn = 0 ∧ ¬ (n.path = [47] ∧ n.own ≠ 0) ∧ 0 ≤ n.ver ∧ n.ver ≤ 281474976710656 ∧ 0 ≤ n.own ∧ n.own ≤ 1099511627776)
def tfit (t : Tu) : Bool := (split t.dir).isSome && decide (1 ≤ t.next ∧ t.next ≤ 10000)
def AscT (l : List Tu) : Prop := ∀ i j (hi : i < l.length) (hj : j < l.length), i < j → lt l[i].dir l[j].dir = true
structure StR (s : St) : Prop where
 fit : ∀ n ∈ s.nodes, sfit n = true
 asc : Asc s.nodes
 tfit : ∀ t ∈ s.turns, tfit t = true
 tasc : AscT s.turns
open Classical in
noncomputable def rightS (s : St) : Bool := decide (StR s)
theorem rightS_iff (s : St) : rightS s = true ↔ StR s := by unfold rightS; simp
theorem rightS_true {s : St} (h : StR s) : rightS s = true := by unfold rightS; simp [h]
theorem rightS_false {s : St} (h : ¬ StR s) : rightS s = false := by unfold rightS; simp [h]
def findT (l : List Tu) (p : Bs) : Option Tu := l.find? (fun t => t.dir == p)
def turnOf (l : List Tu) (p : Bs) : Int := ((findT l p).map Tu.next).getD 0
def placeT (l : List Tu) (p : Bs) : Nat := l.countP (fun t => lt t.dir p)
def insT (l : List Tu) (k : Nat) (x : Tu) : List Tu := l.take k ++ x :: l.drop k
def setT (l : List Tu) (p : Bs) (n : Int) : List Tu :=
 let l1 := if (findT l p).isSome = true then l.eraseIdx (placeT l p) else l
 if n ≠ 0 then insT l1 (placeT l p) ⟨p, n⟩ else l1
def okR : Res := ⟨0, [], [], 0, []⟩
def versionedP (k : Int) : Bool := k == 3 || k == 5 || k == 6
def newPath (s : St) (x : Pt) : Option Bs := if x.turns = true then (numbered (last x.path) (turnOf s.turns x.dir)).bind (join x.dir) else some x.path
def putS (s : St) (x : Pt) : St × Res :=
 match newPath s x with
 | none => (s, .bad 66)
 | some q => if (find s.nodes q).isSome = true then (s, .bad 61) else
   (⟨ins s.nodes (place s.nodes q) ⟨q, x.data, 0, 0, x.own⟩, if x.turns = true then setT s.turns x.dir (turnOf s.turns x.dir + 1) else s.turns⟩, ⟨0, q, [], 0, []⟩)
def cleared (x : Pt) (n : Nd) : Bool := n.own == x.own && parent n.path == some x.path
def doP (s : St) (x : Pt) : St × Res :=
 if x.kind = 2 then putS s x
 else if x.kind = 4 then (if kids s.nodes x.path = [] then (⟨s.nodes, setT s.turns x.path 0⟩, okR) else (s, .bad 64))
 else if x.kind = 9 then (s, ⟨0, [], [], 0, (kids s.nodes x.path).map (fun n => last n.path)⟩)
 else if x.kind = 10 then (⟨s.nodes.filter (fun n => !cleared x n), s.turns⟩, ⟨0, [], [], 0, (s.nodes.filter (cleared x)).map (fun n => last n.path)⟩)
 else match find s.nodes x.path with
  | none => (s, .bad 62)
  | some n => if versionedP x.kind = true ∧ 0 ≤ x.ver ∧ x.ver ≠ n.ver then (s, .bad 63)
   else if x.kind = 1 then (if n.own ≠ 0 then (s, .bad 65) else (s, okR))
   else if x.kind = 3 then (⟨s.nodes.eraseIdx (place s.nodes x.path), s.turns⟩, okR)
   else if x.kind = 5 then (if n.ver = 281474976710656 then (s, .bad 2) else (⟨s.nodes.set (place s.nodes x.path) { n with data := x.data, ver := n.ver + 1 }, s.turns⟩, ⟨0, [], [], n.ver + 1, []⟩))
   else if x.kind = 6 then (s, ⟨0, [], [], n.ver, []⟩)
   else if x.kind = 7 then (s, ⟨0, [], n.data, n.ver, []⟩)
   else (s, okR)
noncomputable def applyP (s : St) (x : Pt) : St × Res := if rightS s && mayP x then doP s x else (⟨[], []⟩, .bad 1)
theorem applyP_no {s : St} {x : Pt} (h : ¬ (rightS s = true ∧ mayP x = true)) : applyP s x = (⟨[], []⟩, .bad 1) := by
 unfold applyP; rw [if_neg]; simpa [Bool.and_eq_true] using h
theorem applyP_yes {s : St} {x : Pt} (h : StR s) (k : mayP x = true) : applyP s x = doP s x := by
 unfold applyP; rw [if_pos]; rw [rightS_true h, k]; rfl
theorem doP_err (s : St) (x : Pt) : (doP s x).2.err ≠ 1 ∧ ((doP s x).2.err ≠ 0 → (doP s x).1 = s ∧ (doP s x).2 = .bad (doP s x).2.err) := by
 have bad : ∀ e : Int, e ≠ 1 → ((s, Res.bad e).2.err ≠ 1 ∧ ((s, Res.bad e).2.err ≠ 0 → (s, Res.bad e).1 = s ∧ (s, Res.bad e).2 = .bad (s, Res.bad e).2.err)) := fun e h => ⟨h, fun _ => ⟨rfl, rfl⟩⟩
 have good : ∀ (t : St) (r : Res), r.err = 0 → ((t, r).2.err ≠ 1 ∧ ((t, r).2.err ≠ 0 → (t, r).1 = s ∧ (t, r).2 = .bad (t, r).2.err)) := fun t r h => ⟨by rw [show (t, r).2 = r from rfl, h]; decide, fun k => absurd h k⟩
 unfold doP
 split
 ·unfold putS
  split
  ·exact bad _ (by decide)
  split
  ·exact bad _ (by decide)
  exact good _ _ rfl
 split
 ·split
  ·exact good _ _ rfl
  exact bad _ (by decide)
 split
 ·exact good _ _ rfl
 split
 ·exact good _ _ rfl
 split
 ·exact bad _ (by decide)
 split
 ·exact bad _ (by decide)
 split
 ·split
  ·exact bad _ (by decide)
  exact good _ _ rfl
 split
 ·exact good _ _ rfl
 split
 ·split
  ·exact bad _ (by decide)
  exact good _ _ rfl
 split
 ·exact good _ _ rfl
 split
 ·exact good _ _ rfl
 exact good _ _ rfl
def partsOf (o : Opn) : List Pt :=
 if may o = true then
  (if o.kind = 1 then [⟨1, upB (upB o.path), upB o.path, [], 0, 0, false⟩, ⟨2, upB o.path, o.path, o.data, 0, o.own, o.turns⟩]
  else if o.kind = 2 then [⟨3, upB o.path, o.path, [], o.ver, 0, false⟩, ⟨4, o.path, o.path, [], 0, 0, false⟩]
  else if o.kind = 3 then [⟨5, upB o.path, o.path, o.data, o.ver, 0, false⟩]
  else if o.kind = 4 then [⟨6, upB o.path, o.path, [], o.ver, 0, false⟩]
  else if o.kind = 5 then [⟨7, upB o.path, o.path, [], 0, 0, false⟩]
  else if o.kind = 6 then [⟨8, upB o.path, o.path, [], 0, 0, false⟩, ⟨9, o.path, o.path, [], 0, 0, false⟩]
  else [⟨8, upB o.path, o.path, [], 0, 0, false⟩, ⟨10, o.path, o.path, [], 0, o.own, false⟩])
 else []
theorem upB_ok (p : Bs) : (split (upB p)).isSome = true := by
 unfold upB
 cases h : parent p with
 | none => rfl
 | some u => ?_
 simp only [Option.getD_some]
 obtain ⟨ps, hs, hj, _⟩ := parent_some h
 unfold join at hj
 cases hu : split u with
 | none => rw [hu] at hj; cases hj
 | some _ => rfl
end Pm
namespace Pm
def tn (t : Tu) : Nd := ⟨t.dir, [], 0, t.next, 0⟩
theorem tn_inj {a b : Tu} (h : tn a = tn b) : a = b := by
 obtain ⟨_, _⟩ := a; obtain ⟨_, _⟩ := b
 unfold tn at h; injection h with h1 _ _ h2 _; subst h1 h2; rfl
theorem ascT_iff {l : List Tu} : AscT l ↔ Asc (l.map tn) := by
 constructor
 ·intro h i j hi hj hij
  simp only [List.length_map] at hi hj
  simp only [List.getElem_map]
  exact h i j hi hj hij
 intro h i j hi hj hij
 have := h i j (by simpa using hi) (by simpa using hj) hij
 simp only [List.getElem_map] at this
 exact this
theorem find_tn (l : List Tu) (p : Bs) : find (l.map tn) p = (findT l p).map tn := by
 unfold find findT
 rw [List.find?_map]; rfl
theorem place_tn (l : List Tu) (p : Bs) : place (l.map tn) p = placeT l p := by
 unfold place placeT
 rw [List.countP_map]; rfl
theorem ins_tn (l : List Tu) (k : Nat) (x : Tu) : (insT l k x).map tn = ins (l.map tn) k (tn x) := by
 unfold insT ins
 rw [List.map_append, List.map_cons, List.map_take, List.map_drop]
theorem erase_tn : ∀ (l : List Tu) (k : Nat), (l.eraseIdx k).map tn = (l.map tn).eraseIdx k
 | [], k => by simp
 | a :: l, 0 => rfl
 | a :: l, k + 1 => by rw [List.eraseIdx_cons_succ, List.map_cons, List.map_cons, List.eraseIdx_cons_succ, erase_tn l k]
theorem map_tn_inj : ∀ {a b : List Tu}, a.map tn = b.map tn → a = b
 | [], [], _ => rfl
 | [], _ :: _, h => by cases h
 | _ :: _, [], h => by cases h
 | x :: a, y :: b, h => by
  rw [List.map_cons, List.map_cons] at h
  injection h with h1 h2
  rw [tn_inj h1, map_tn_inj h2]
theorem findT_none {l : List Tu} {p : Bs} : findT l p = none ↔ ∀ t ∈ l, t.dir ≠ p := by
 unfold findT; rw [List.find?_eq_none]; simp
theorem findT_mem {l : List Tu} {p : Bs} {t : Tu} (h : findT l p = some t) : t ∈ l ∧ t.dir = p := by
 unfold findT at h
 exact ⟨List.mem_of_find?_eq_some h, by simpa using List.find?_some h⟩
theorem eraseT {l : List Tu} (h : AscT l) {p : Bs} {t : Tu} (ht : findT l p = some t) : l.eraseIdx (placeT l p) = l.filter (fun t => t.dir != p) := by
 have hA := ascT_iff.1 h
 have hf : find (l.map tn) p = some (tn t) := by rw [find_tn, ht]; rfl
 have e := filter_erase hA hf
 rw [place_tn, ← erase_tn, List.filter_map] at e
 exact (map_tn_inj e)
theorem ascT_filter {l : List Tu} (h : AscT l) (q : Tu → Bool) : AscT (l.filter q) := by
 have : l.Pairwise (fun a b => lt a.dir b.dir = true) := by rw [List.pairwise_iff_getElem]; exact h
 have h2 := this.filter q
 rw [List.pairwise_iff_getElem] at h2; exact h2
theorem placeT_filter {l : List Tu} (p : Bs) : placeT (l.filter (fun t => t.dir != p)) p = placeT l p := by
 unfold placeT
 rw [List.countP_filter]
 apply List.countP_congr
 intro t _
 simp only [Bool.and_eq_true, bne_iff_ne]
 constructor
 ·exact fun k => k.1
 exact fun k => ⟨k, lt_ne k⟩
theorem ascT_ins {l : List Tu} (h : AscT l) {p : Bs} (n : Int) (hn : findT l p = none) : AscT (insT l (placeT l p) ⟨p, n⟩) := by
 rw [ascT_iff, ins_tn, ← place_tn]
 exact (ascT_iff.1 h).ins (tn ⟨p, n⟩) (by rw [show (tn ⟨p, n⟩).path = p from rfl, find_tn, hn]; rfl)
theorem mem_insT {l : List Tu} {k : Nat} {x y : Tu} (h : y ∈ insT l k x) : y = x ∨ y ∈ l := by
 unfold insT at h
 rw [List.mem_append, List.mem_cons] at h
 rcases h with h | h | h
 ·exact .inr (List.mem_of_mem_take h)
 ·exact .inl h
 exact .inr (List.mem_of_mem_drop h)
theorem setT_eq {l : List Tu} (h : AscT l) (p : Bs) (n : Int) : setT l p n = if n ≠ 0 then insT (l.filter (fun t => t.dir != p)) (placeT (l.filter (fun t => t.dir != p)) p) ⟨p, n⟩ else l.filter (fun t => t.dir != p) := by
 unfold setT
 rw [placeT_filter]
 cases hf : findT l p with
 | some t => simp only [Option.isSome_some, if_true]; rw [eraseT h hf]
 | none => ?_
 have : l.filter (fun t => t.dir != p) = l := by rw [List.filter_eq_self]; intro t ht; simpa using findT_none.1 hf t ht
 simp only [Option.isSome_none, Bool.false_eq_true, if_false]; rw [this]
theorem turnOf_bounds {l : List Tu} (hf : ∀ t ∈ l, tfit t = true) (p : Bs) : 0 ≤ turnOf l p ∧ turnOf l p ≤ 10000 := by
 unfold turnOf
 cases h : findT l p with
 | none => simp
 | some t => ?_
 have := hf t (findT_mem h).1
 unfold tfit at this
 simp only [Bool.and_eq_true, decide_eq_true_eq] at this
 simp only [Option.map_some, Option.getD_some]; omega
theorem sfit_iff (n : Nd) : sfit n = true ↔ (split n.path).isSome = true ∧ n.data.length ≤ 256 ∧ n.turn = 0 ∧ ¬ (n.path = [47] ∧ n.own ≠ 0) ∧ 0 ≤ n.ver ∧ n.ver ≤ 281474976710656 ∧ 0 ≤ n.own ∧ n.own ≤ 1099511627776 := by
 unfold sfit; rw [Bool.and_eq_true, decide_eq_true_eq]
theorem mayP_iff (x : Pt) : mayP x = true ↔ (1 ≤ x.kind ∧ x.kind ≤ 10) ∧ (split x.path).isSome = true ∧ x.dir = keptAt x.kind x.path ∧ ¬ (x.kind = 2 ∧ x.path = [47]) ∧ x.data.length ≤ 256 ∧ -1 ≤ x.ver ∧ x.ver ≤ 281474976710656 ∧ 0 ≤ x.own ∧ x.own ≤ 1099511627776 := by
 unfold mayP; simp only [Bool.and_eq_true, decide_eq_true_eq, and_assoc]
end Pm
namespace Pm
end Pm
open Go.RowKit Pm
attribute [go_sem] B_size B_toList B_get B_extract B_app lit_app app_lit lit_extract
def Dr (w w' : World) : Prop := ∃ n, w' = w.drewN n
theorem Dr.refl (w : World) : Dr w w := ⟨0, rfl⟩
theorem Dr.of (w : World) (n : Nat) : Dr w (w.drewN n) := ⟨n, rfl⟩
theorem Dr.trans {a b c : World} (h : Dr a b) (k : Dr b c) : Dr a c := by
 obtain ⟨n, rfl⟩ := h; obtain ⟨m, rfl⟩ := k; exact ⟨n + m, by rw [World.drewN_drewN]⟩
theorem Dr.below {w w' : World} (h : Dr w w') (b0 : Nat) : Below b0 w w' := by
 obtain ⟨n, rfl⟩ := h; exact below_drewN (Below.refl _ _) n
theorem Dr.size {w w' : World} (h : Dr w w') : w'.heap.size = w.heap.size := by obtain ⟨n, rfl⟩ := h; rfl
theorem Dr.owns {w w' : World} (h : Dr w w') {b0 : Nat} {e : TypeId} {k : Nat} {v : Value} {n : Nat} {xs : List Value} (ho : w.ownsRow b0 e k v n xs) : w'.ownsRow b0 e k v n xs := by
 obtain ⟨n, rfl⟩ := h; exact ho
theorem ret_bool {a b : Bool} (h : a = b) : Ending.returned (.bool a) = .returned (.bool b) := by rw [h]
theorem ret_int {k : IntKind} {a b : Int} (h : a = b) : Ending.returned (.int k a) = .returned (.int k b) := by rw [h]
set_option maxHeartbeats 400000 in
theorem isPartByte_c (b : Nat) (w : World) :
  Calls Tryz.prog 186 #[.int .u8 b] w fun e w' => e = .returned (.bool (okN b)) ∧ w = w' := by
 go_enter Tryz.func186, Tryz.ntmps186
 go_wp2
 all_goals (go_ret; refine ⟨ret_bool ?_, rfl⟩; unfold okN; rw [Bool.eq_iff_iff]; simp; omega)
set_option maxHeartbeats 400000 in
theorem partLen_c (l : Bs) (w : World) (hl : l.length ≤ 9223372036854775807) :
  Calls Tryz.prog 170 #[.string (B l)] w fun e w' => e = .returned (.int .i64 (pl 12 l)) ∧ w = w' := by
 go_enter Tryz.func170, Tryz.ntmps170
 go_wp2
 go_loop [3] (fun n => ∃ k : Nat, k ≤ 12 ∧ k ≤ l.length ∧ n = .int .i64 k ∧ Hid (∀ i (h : i < l.length), i < k → okB l[i] = true)) (fun n => 12 - (intOf n).toNat)
 case atStart => exact ⟨0, by omega, by omega, rfl, fun i h hn => by omega⟩
 obtain ⟨k, hk, hkl, rfl, ha⟩ := hrel
 by_cases h1 : k < l.length
 ·by_cases h2 : k < 12
  ·go_wp2_with (go_at_call 186; refine (isPartByte_c _ _).mono ?_; rintro e w' ⟨rfl, rfl⟩)
   ·have hok : okN (l[k].toNat) = true := by assumption
    go_round
    case rel => exact ⟨k + 1, by omega, by omega, by go_num, fun i hi hn => by
     by_cases hik : i = k
     ·subst hik; exact hok
     exact ha i hi (by omega)⟩
    case measure => simp [intOf]; omega
   have hok : okN (l[k].toNat) = false := by assumption
   go_ret
   exact ⟨ret_int (by rw [pl_stop k l (by omega) (by omega) ha (Or.inr (Or.inr ⟨h1, hok⟩))]), rfl⟩
  go_wp2
  go_ret
  exact ⟨ret_int (by rw [pl_stop k l (by omega) (by omega) ha (Or.inl (by omega))]), rfl⟩
 go_wp2
 go_ret
 exact ⟨ret_int (by rw [pl_stop k l (by omega) (by omega) ha (Or.inr (Or.inl (by omega)))]), rfl⟩
set_option maxHeartbeats 400000 in
theorem isPart_c (l : Bs) (w : World) (hl : l.length ≤ 9223372036854775807) :
  Calls Tryz.prog 180 #[.string (B l)] w fun e w' => e = .returned (.bool (isPart l)) ∧ w = w' := by
 go_enter Tryz.func180, Tryz.ntmps180
 go_wp2_with (go_at_call 170; refine (partLen_c _ _ hl).mono ?_; rintro e w' ⟨rfl, rfl⟩)
 ·have h : l = [] := by assumption
  subst h
  go_ret
  exact ⟨rfl, rfl⟩
 go_ret
 refine ⟨ret_bool ?_, rfl⟩
 unfold isPart
 congr 1
 rw [Bool.eq_iff_iff]; simp; omega
set_option maxHeartbeats 400000 in
theorem cut_c (l : Bs) (w : World) (hl : l.length ≤ 9223372036854775807) :
  Calls Tryz.prog 137 #[.string (B l)] w fun e w' => e = .returned (.tuple #[.string (B (cut l).1), .string (B (cut l).2)]) ∧ Dr w w' := by
 match l, hl with
 | [], _ =>
  go_enter Tryz.func137, Tryz.ntmps137
  go_wp2
  go_ret2
  exact ⟨rfl, Dr.refl _⟩
 | c :: r, hl =>
  simp at hl
  by_cases hc : c = 47
  ·subst hc
   go_enter Tryz.func137, Tryz.ntmps137
   have h1 := pl_le 12 r
   have h2 := pl_len 12 r
   go_wp2_with (go_at_call 170; refine (partLen_c r _ (by omega)).mono ?_; rintro e w' ⟨rfl, rfl⟩)
   go_quiet (fail)
   go_wp2
   go_ret2
   refine ⟨?_, Dr.of _ _⟩
   have e1 : 1 + pl 12 r - 1 = pl 12 r := by omega
   have e2 : (List.drop (1 + pl 12 r) (47 :: r)) = r.drop (pl 12 r) := by rw [Nat.add_comm, List.drop_succ_cons]
   have e3 : List.take (r.length + 1 - (1 + pl 12 r)) (r.drop (pl 12 r)) = r.drop (pl 12 r) := List.take_of_length_le (by simp; omega)
   show Ending.returned (.tuple #[.string (B (List.take (1 + pl 12 r - 1) r)), .string (B (List.take (r.length + 1 - (1 + pl 12 r)) (List.drop (1 + pl 12 r) (47 :: r))))]) = _
   rw [e1, e2, e3]
   rfl
  have hb : ((c.toNat : Int) != 47) = true := by simp; intro h; apply hc; apply UInt8.toNat.inj; exact Int.ofNat_inj.1 h
  go_enter Tryz.func137, Tryz.ntmps137
  go_wp2
  go_ret2
  exact ⟨by simp [cut, hc]; rfl, Dr.refl _⟩
def strV (p : Bs) : Value := .string (B p)
def Own (b0 : Nat) (w : World) (v : Value) (ps : List Bs) : Prop :=
 w.ownsRow b0 9 1 v ps.length (ps.map strV) ∧ (ps = [] → v = .slice none 0 0)
theorem Own.nil (b0 : Nat) (w : World) : Own b0 w (.slice none 0 0) [] := ⟨World.ownsRow_nil _ _ _ _, fun _ => rfl⟩
def SplitPost (l : Bs) (w : World) (e : Ending) (w' : World) : Prop :=
 ∃ v, e = .returned (.tuple #[v, .bool (split l).isSome]) ∧ Own w.heap.size w' v ((split l).getD []) ∧ Below w.heap.size w w'
theorem Tryz.infoS : (Tryz.prog.info? 9).map (fun i => (i.zero, i.size, i.bytes)) = some (some (.string ⟨#[]⟩), 1, 16) := by kernel_rfl
theorem cut_len (l : Bs) : (cut l).2.length ≤ l.length := by
 unfold cut; split
 ·simp
 split <;> simp; omega
def AnyFrame (a : Act) : Prop := ∃ u0 u1 u2 u3 u4 u5 u6 u7 u8 u9 u10 u11 u12 u13 u14 u15 u16 u17 u18 u19 u20 u21 u22 u23 u24 u25 u26 u27 u28 : Value, a = { tmps := #[u0, u1, u2, u3, u4, u5, u6, u7, u8, u9, u10, u11, u12, u13, u14, u15, u16, u17, u18, u19, u20, u21, u22, u23, u24, u25, u26, u27, u28], defers := [] }
def SplitRel (l : Bs) (w : World) (v r i : Value) (wr : World) : Prop :=
 ∃ (acc : List Bs) (rest : Bs), acc.length ≤ 6 ∧ r = .string (B rest) ∧ i = .int .i64 acc.length ∧ split l = (splitN (6 - acc.length) rest).map (acc ++ ·) ∧
  rest.length ≤ l.length ∧ Own w.heap.size wr v acc ∧ Below w.heap.size w wr
theorem Own.push {b0 : Nat} {w w1 w2 : World} {v v' : Value} {acc : List Bs} {x : Bs} {o : Obj} (ho : w1.ownsRow b0 9 1 v acc.length (acc.map strV)) (hbl : Below b0 w w1)
  (hsz : b0 ≤ w1.heap.size) (hown : w2.ownsRow b0 9 1 v' (acc.length + 1) (acc.map strV ++ [strV x])) (hg : (w1.alloc o).grownBy w2 v.ownBlock) :
  Own b0 w2 v' (acc ++ [x]) ∧ Below b0 w w2 := by
 refine ⟨⟨?_, fun h => by simp at h⟩, ?_⟩
 ·simpa using hown
 exact (hbl.alloc hsz o).grown hg (by simp; omega) (fun k hk => (ho.lt k hk).1)
theorem one_c2 (x : Bs) : ∀ u, u ∈ [strV x] → u.oneCell' = true := by
 intro u hu; simp at hu; subst hu; rfl
theorem cut_call (rest a b : Bs) (hc : cut rest = (a, b)) (w : World) (hl : rest.length ≤ 9223372036854775807) :
  Calls Tryz.prog 137 #[.string (B rest)] w fun e w' => e = .returned (.tuple #[.string (B a), .string (B b)]) ∧ Dr w w' := by
 have := cut_c rest w hl
 rwa [hc] at this
set_option maxHeartbeats 1000000 in
theorem Split_c (l : Bs) (w : World) (hl : l.length ≤ 4611686018427387904) :
  Calls Tryz.prog 102 #[.string (B l)] w (SplitPost l w) := by
 obtain ⟨i0, hi, hz0, hz1, hz2⟩ := info_parts Tryz.infoS
 by_cases hr : l = [47]
 ·subst hr
  go_enter Tryz.func102, Tryz.ntmps102
  go_wp2
  go_step3
  go_wp2
  rw [Exit.noGoto_ret]
  go_ret2
  exact ⟨_, rfl, Own.nil _ _, Below.refl _ _⟩
 have hb : (l == [47]) = false := by simpa using hr
 go_enter Tryz.func102, Tryz.ntmps102
 go_wp2
 refine wp_scope_jumps 0 (fun a' w' => split l = none ∧ Below w.heap.size w w' ∧ AnyFrame a') (fun _ _ => 0) rfl ?_ ?_
 ·go_wp2
  go_loopw [4, 5, 11] (fun v r i wr => SplitRel l w v r i wr) (fun _ _ i _ => 6 - (intOf i).toNat)
  case atStart => exact ⟨[], l, by simp, rfl, rfl, by simp [split, hr], Nat.le_refl _, Own.nil _ _, Below.refl _ _⟩
  obtain ⟨acc, rest, hk, rfl, rfl, hsp, hlr, hown, hbl⟩ := hrel
  by_cases h6 : acc.length < 6
  ·obtain ⟨a, b, hc⟩ : ∃ a b, cut rest = (a, b) := ⟨_, _, rfl⟩
   have hcl := cut_len rest
   rw [hc] at hcl
   have hcut := cut_call rest a b hc
   have hspN : split l = ((splitN (5 - acc.length + 1) rest).map (acc ++ ·)) := by rw [hsp]; congr 2; omega
   have HC := Lib.hid hcut; clear hcut
   have HS := Lib.hid hspN; clear hspN hsp
   have HB := Lib.hid hc; clear hc
   cases a with
   | nil =>
    go_wp2_with (go_at_call 137; refine (HC.out _ (by omega)).mono ?_; rintro e w1 ⟨rfl, hd⟩)
    go_step3
    refine ⟨rfl, ?_, hbl.trans (hd.below _), _, _, _, _, _, _, _, _, _, _, _, _, _, _, _, _, _, _, _, _, _, _, _, _, _, _, _, _, _, rfl⟩
    rw [HS.out]; simp [splitN, HB.out]
   | cons c a => ?_
   cases b with
   | nil =>
    go_wp2_with fail
    refine (HC.out _ (by omega)).mono ?_
    rintro e w1 ⟨rfl, hd⟩
    have ho1 := hd.owns hown.1
    have hb1 := hbl.trans (hd.below _)
    have hs1 := hb1.size
    go_wp2_with (at_builtin; go_must (refine wpList_append_own _ rfl _ _ 32 rfl w.heap.size 9 i0 (.string ⟨#[]⟩) 1 16 Tryz.underlying32 hi hz0 hz1 hz2 rfl (by decide) _ _ _ rfl (ho1.alloc _) ⟨w1.heap.size, 0, none⟩ 1 1 [strV (c :: a)] rfl rfl (cell_one_new _ _ _) (one_c2 _) (by unfold maxLen; omega) (by omega) (by simp; omega) ?_; intro v' w2 hown' hgrow _))
    obtain ⟨hO, hB⟩ := Own.push ho1 hb1 hs1 hown' hgrow
    clear hown' hgrow ho1 hown
    simp only [Exit.jump]
    go_ret2
    have e : split l = some (acc ++ [c :: a]) := by rw [HS.out]; simp [splitN, HB.out]
    exact ⟨_, by rw [e]; rfl, by rw [e]; exact hO, hB⟩
   | cons d b => ?_
   go_wp2_with fail
   refine (HC.out _ (by omega)).mono ?_
   rintro e w1 ⟨rfl, hd⟩
   have ho1 := hd.owns hown.1
   have hb1 := hbl.trans (hd.below _)
   have hs1 := hb1.size
   go_wp2_with (at_builtin; go_must (refine wpList_append_own _ rfl _ _ 32 rfl w.heap.size 9 i0 (.string ⟨#[]⟩) 1 16 Tryz.underlying32 hi hz0 hz1 hz2 rfl (by decide) _ _ _ rfl (ho1.alloc _) ⟨w1.heap.size, 0, none⟩ 1 1 [strV (c :: a)] rfl rfl (cell_one_new _ _ _) (one_c2 _) (by unfold maxLen; omega) (by omega) (by simp; omega) ?_; intro v' w2 hown' hgrow _))
   obtain ⟨hO, hB⟩ := Own.push ho1 hb1 hs1 hown' hgrow
   clear hown' hgrow ho1 hown
   go_roundw
   case rel =>
    refine ⟨acc ++ [c :: a], d :: b, by rw [List.length_append]; simp; omega, rfl, by simp, ?_, by omega, hO, hB⟩
    rw [HS.out, show 6 - (acc ++ [c :: a]).length = 5 - acc.length from by rw [List.length_append]; show 6 - (acc.length + 1) = _; omega]
    simp [splitN, HB.out, Function.comp_def]
   case measure => simp [intOf]; omega
  have h6' : acc.length = 6 := by omega
  go_wp2
  go_step3
  go_wp2
  simp only [Exit.jump]
  go_ret2
  have e : split l = none := by rw [hsp, h6']; rfl
  exact ⟨_, by rw [e]; rfl, by rw [e]; exact Own.nil _ _, hbl⟩
 rintro a' w' ⟨hs, hbl, u0, u1, u2, u3, u4, u5, u6, u7, u8, u9, u10, u11, u12, u13, u14, u15, u16, u17, u18, u19, u20, u21, u22, u23, u24, u25, u26, u27, u28, rfl⟩
 go_wp2
 simp only [Exit.jump]
 go_ret2
 exact ⟨_, by rw [hs]; rfl, by rw [hs]; exact Own.nil _ _, hbl⟩
end Go.Proofs.YtphoglepiegeiaaGreatDoor
