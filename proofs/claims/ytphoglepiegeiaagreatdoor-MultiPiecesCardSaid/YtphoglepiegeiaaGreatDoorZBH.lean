/- A text of this proof. -/
import Derived.Test.YtphoglepiegeiaaGreatDoorZBG
set_option linter.unusedSimpArgs false
set_option linter.unusedVariables false
namespace Go.Proofs.YtphoglepiegeiaaGreatDoor
set_option maxRecDepth 20000
namespace Pm
theorem newPath_some {s : St} {x : Pt} {q : Bs} (hm : mayP x = true) (hk : x.kind = 2) (h : newPath s x = some q) :
  (split q).isSome = true ∧ q ≠ [47] ∧ parent q = some x.dir ∧ (x.turns = true → turnOf s.turns x.dir ≤ 9999) := by
 obtain ⟨_, hp, hd, hr, _⟩ := (mayP_iff x).1 hm
 have hdir : x.dir = upB x.path := by rw [hd, hk]; rfl
 unfold newPath at h
 split at h
 ·cases hn : numbered (last x.path) (turnOf s.turns x.dir) with
  | none => rw [hn] at h; cases h
  | some y =>
   rw [hn] at h
   obtain ⟨cs, h1, h2, _⟩ := join_some (show join x.dir y = some q from h)
   exact ⟨by rw [h1]; rfl, parent_ne_root h2, h2, fun _ => (numbered_turn hn).2⟩
 rename_i ht
 obtain rfl := Option.some.inj h
 have hne : x.path ≠ [47] := fun e => hr ⟨hk, e⟩
 refine ⟨hp, hne, ?_, fun k => absurd k ht⟩
 cases hpp : parent x.path with
 | none => have := (parent_none hpp).1; rw [hp] at this; exact absurd (by simpa using this.symm) hne
 | some u => rw [hdir]; unfold upB; rw [hpp]; rfl
theorem mayP_mk {k : Int} {d q data : Bs} {ver own : Int} {t : Bool} (hk : 1 ≤ k ∧ k ≤ 10) (hs : (split q).isSome = true) (hd : d = keptAt k q) (hr : ¬ (k = 2 ∧ q = [47]))
  (h1 : data.length ≤ 256) (h2 : -1 ≤ ver) (h3 : ver ≤ 281474976710656) (h4 : 0 ≤ own) (h5 : own ≤ 1099511627776) : mayP ⟨k, d, q, data, ver, own, t⟩ = true :=
 (mayP_iff _).2 ⟨hk, hs, hd, hr, h1, h2, h3, h4, h5⟩
theorem StR.put {s : St} (h : StR s) {x : Pt} (hm : mayP x = true) (hk : x.kind = 2) : StR (putS s x).1 := by
 obtain ⟨_, hp, hd, hr, hl⟩ := (mayP_iff x).1 hm
 unfold putS
 split
 ·exact h
 rename_i q hq
 obtain ⟨h1, h2, h3, h4⟩ := newPath_some hm hk hq
 split
 ·exact h
 rename_i hf
 have hn : find s.nodes q = none := by simpa using hf
 have hdv : (split x.dir).isSome = true := by rw [hd, hk]; exact upB_ok _
 have htb := turnOf_bounds h.tfit x.dir
 have hT : AscT (if x.turns = true then setT s.turns x.dir (turnOf s.turns x.dir + 1) else s.turns) ∧ ∀ t ∈ (if x.turns = true then setT s.turns x.dir (turnOf s.turns x.dir + 1) else s.turns), Pm.tfit t = true := by
  split
  ·rename_i ht; exact setT_right h.tasc h.tfit hdv (by omega) (by have := h4 ht; omega)
  exact ⟨h.tasc, h.tfit⟩
 refine ⟨fun n hn' => ?_, ?_, hT.2, hT.1⟩
 ·rcases mem_ins.1 hn' with rfl | k
  ·rw [sfit_iff]; exact ⟨h1, hl.1, rfl, fun k => h2 k.1, Int.le_refl 0, (show (0 : Int) ≤ 281474976710656 by decide), hl.2.2.2.1, hl.2.2.2.2⟩
  exact h.fit n k
 exact h.asc.ins ⟨q, x.data, 0, 0, x.own⟩ hn
theorem mem_erase {l : List Nd} {k : Nat} {n : Nd} (h : n ∈ l.eraseIdx k) : n ∈ l := List.mem_of_mem_eraseIdx h
theorem StR.doP {s : St} (h : StR s) {x : Pt} (hm : mayP x = true) : StR (Pm.doP s x).1 := by
 obtain ⟨hk, hp, hd, hr, hl⟩ := (mayP_iff x).1 hm
 unfold Pm.doP
 split
 ·rename_i k; exact h.put hm k
 split
 ·split
  ·have := setT_right h.tasc h.tfit hp (Int.le_refl 0) (by decide)
   exact ⟨h.fit, h.asc, this.2, this.1⟩
  exact h
 split
 ·exact h
 split
 ·exact ⟨fun n hn => h.fit n (List.mem_filter.1 hn).1, h.asc.filter _, h.tfit, h.tasc⟩
 split
 ·exact h
 rename_i n hf
 split
 ·exact h
 split
 ·split <;> exact h
 split
 ·refine ⟨fun m hm => h.fit m (mem_erase hm), ?_, h.tfit, h.tasc⟩
  show Asc (s.nodes.eraseIdx (place s.nodes x.path))
  rw [filter_erase h.asc hf]; exact h.asc.filter _
 split
 ·split
  ·exact h
  rename_i hv
  obtain ⟨hk2, e⟩ := find_at h.asc hf
  have hn := (sfit_iff n).1 (h.fit n (find_mem hf).1)
  refine ⟨fun m hm => ?_, h.asc.set hk2 _ (by rw [e]), h.tfit, h.tasc⟩
  rcases List.mem_or_eq_of_mem_set hm with k | rfl
  ·exact h.fit m k
  rw [sfit_iff]
  obtain ⟨a1, a2, a3, a4, a5, a6, a7, a8⟩ := hn
  exact ⟨a1, hl.1, a3, a4, by simp only; omega, by simp only; omega, a7, a8⟩
 split
 ·exact h
 split
 ·exact h
 exact h
theorem partsOf_may (o : Opn) : ∀ x ∈ partsOf o, mayP x = true ∧ (x.dir = x.path ∨ x.dir = upB x.path) ∧ x.path.length ≤ 100 := by
 intro x hx
 unfold partsOf at hx
 split at hx
 ·rename_i hm
  have hs := may_split hm
  have ho := may_own hm
  have hv : -1 ≤ o.ver ∧ o.ver ≤ 281474976710656 := by
   have hk := may_kind hm
   unfold may at hm
   simp only [Bool.and_eq_true] at hm
   have := hm.2
   rcases hk with k | k | k | k | k | k | k <;> simp [k] at this <;> omega
  have hlen : o.path.length ≤ 100 := by
   obtain ⟨ps, hps⟩ := Option.isSome_iff_exists.1 hs
   obtain ⟨hP, e⟩ := (split_iff _ _).1 hps
   rw [← e]; exact joinP_len hP
  have hul : ∀ p : Bs, p.length ≤ 100 → (upB p).length ≤ 100 := fun p h => by
   unfold upB
   cases hp : parent p with
   | none => simp
   | some u => obtain ⟨_, _, _, h1, _⟩ := parent_some hp; exact h1
  have hus := upB_ok o.path
  split at hx
  ·rename_i k
   obtain ⟨u, hu⟩ := may_parent hm (.inl k)
   simp only [List.mem_cons, List.not_mem_nil, or_false] at hx
   rcases hx with rfl | rfl
   ·exact ⟨mayP_mk (by decide) (hus) (rfl) (fun k => by have := k.1; simp at this) (by simp) (by decide) (by decide) (by decide) (by decide), .inr rfl, hul _ hlen⟩
   exact ⟨mayP_mk (by decide) (hs) (rfl) (fun k => parent_ne_root hu k.2) (ho.1) (by decide) (by decide) (ho.2.1) (ho.2.2), .inr rfl, hlen⟩
  split at hx
  ·simp only [List.mem_cons, List.not_mem_nil, or_false] at hx
   rcases hx with rfl | rfl
   ·exact ⟨mayP_mk (by decide) (hs) (rfl) (fun k => by have := k.1; simp at this) (by simp) (hv.1) (hv.2) (by decide) (by decide), .inr rfl, hlen⟩
   exact ⟨mayP_mk (by decide) (hs) (rfl) (fun k => by have := k.1; simp at this) (by simp) (by decide) (by decide) (by decide) (by decide), .inl rfl, hlen⟩
  split at hx
  ·simp only [List.mem_cons, List.not_mem_nil, or_false] at hx
   subst hx
   exact ⟨mayP_mk (by decide) (hs) (rfl) (fun k => by have := k.1; simp at this) (ho.1) (hv.1) (hv.2) (by decide) (by decide), .inr rfl, hlen⟩
  split at hx
  ·simp only [List.mem_cons, List.not_mem_nil, or_false] at hx
   subst hx
   exact ⟨mayP_mk (by decide) (hs) (rfl) (fun k => by have := k.1; simp at this) (by simp) (hv.1) (hv.2) (by decide) (by decide), .inr rfl, hlen⟩
  split at hx
  ·simp only [List.mem_cons, List.not_mem_nil, or_false] at hx
   subst hx
   exact ⟨mayP_mk (by decide) (hs) (rfl) (fun k => by have := k.1; simp at this) (by simp) (by decide) (by decide) (by decide) (by decide), .inr rfl, hlen⟩
  split at hx
  ·simp only [List.mem_cons, List.not_mem_nil, or_false] at hx
   rcases hx with rfl | rfl
   ·exact ⟨mayP_mk (by decide) (hs) (rfl) (fun k => by have := k.1; simp at this) (by simp) (by decide) (by decide) (by decide) (by decide), .inr rfl, hlen⟩
   exact ⟨mayP_mk (by decide) (hs) (rfl) (fun k => by have := k.1; simp at this) (by simp) (by decide) (by decide) (by decide) (by decide), .inl rfl, hlen⟩
  simp only [List.mem_cons, List.not_mem_nil, or_false] at hx
  rcases hx with rfl | rfl
  ·exact ⟨mayP_mk (by decide) (hs) (rfl) (fun k => by have := k.1; simp at this) (by simp) (by decide) (by decide) (by decide) (by decide), .inr rfl, hlen⟩
  exact ⟨mayP_mk (by decide) (hs) (rfl) (fun k => by have := k.1; simp at this) (by simp) (by decide) (by decide) (ho.2.1) (ho.2.2), .inl rfl, hlen⟩
 simp at hx
end Pm
namespace Pm
def kn (n : Nd) : Nd := { n with turn := 0 }
def turnsOf (l : List Nd) : List Tu := (l.filter (fun n => n.turn != 0)).map (fun n => ⟨n.path, n.turn⟩)
def keep (l : List Nd) : St := ⟨l.map kn, turnsOf l⟩
theorem Asc.kn {l : List Nd} (h : Asc l) : Asc (l.map kn) := by
 intro i j hi hj hij
 simp only [List.length_map] at hi hj
 simp only [List.getElem_map]
 exact h i j hi hj hij
theorem find_kn (l : List Nd) (p : Bs) : find (l.map kn) p = (find l p).map kn := by
 unfold find; rw [List.find?_map]; rfl
theorem place_kn (l : List Nd) (p : Bs) : place (l.map kn) p = place l p := by
 unfold place; rw [List.countP_map]; rfl
theorem filter_kn (l : List Nd) (q : Nd → Bool) (hq : ∀ n, q (kn n) = q n) : (l.map kn).filter q = (l.filter q).map kn := by
 rw [List.filter_map]
 congr 1
 apply List.filter_congr
 intro n _
 exact hq n
theorem kids_kn (l : List Nd) (p : Bs) : kids (l.map kn) p = (kids l p).map kn := filter_kn l _ (fun _ => rfl)
theorem asc_ext : ∀ {a b : List Nd}, Asc a → Asc b → (∀ n, n ∈ a ↔ n ∈ b) → a = b := by
 intro a
 induction a with
 | nil =>
  intro b _ _ h
  cases b with
  | nil => rfl
  | cons y b => have := (h y).2 (List.mem_cons_self ..); simp at this
 | cons x a ih =>
  intro b ha hb h
  cases b with
  | nil => have := (h x).1 (List.mem_cons_self ..); simp at this
  | cons y b => ?_
  have hxy : x = y := by
   have h1 : x ∈ y :: b := (h x).1 (List.mem_cons_self ..)
   have h2 : y ∈ x :: a := (h y).2 (List.mem_cons_self ..)
   rcases List.mem_cons.1 h1 with e | k1
   ·exact e
   rcases List.mem_cons.1 h2 with e | k2
   ·exact e.symm
   have l1 := hb.head x k1
   have l2 := ha.head y k2
   rw [lt_asymm l1] at l2; cases l2
  subst hxy
  congr 1
  refine ih ha.tail hb.tail (fun n => ⟨fun k => ?_, fun k => ?_⟩)
  ·have := (h n).1 (List.mem_cons_of_mem _ k)
   rcases List.mem_cons.1 this with rfl | e
   ·have := ha.head n k; rw [lt_irrefl] at this; cases this
   exact e
  have := (h n).2 (List.mem_cons_of_mem _ k)
  rcases List.mem_cons.1 this with rfl | e
  ·have := hb.head n k; rw [lt_irrefl] at this; cases this
  exact e
theorem mem_map_tn {l : List Tu} {t : Tu} : tn t ∈ l.map tn ↔ t ∈ l := by
 rw [List.mem_map]
 exact ⟨fun ⟨s, hs, e⟩ => by rw [← tn_inj e]; exact hs, fun h => ⟨t, h, rfl⟩⟩
theorem ascT_ext {a b : List Tu} (ha : AscT a) (hb : AscT b) (h : ∀ t, t ∈ a ↔ t ∈ b) : a = b := by
 apply map_tn_inj
 refine asc_ext (ascT_iff.1 ha) (ascT_iff.1 hb) (fun n => ?_)
 rw [List.mem_map, List.mem_map]
 exact ⟨fun ⟨t, k, e⟩ => ⟨t, (h t).1 k, e⟩, fun ⟨t, k, e⟩ => ⟨t, (h t).2 k, e⟩⟩
theorem mem_turnsOf {l : List Nd} {t : Tu} : t ∈ turnsOf l ↔ ∃ n ∈ l, n.path = t.dir ∧ n.turn = t.next ∧ n.turn ≠ 0 := by
 unfold turnsOf
 rw [List.mem_map]
 constructor
 ·rintro ⟨n, hn, rfl⟩
  obtain ⟨h1, h2⟩ := List.mem_filter.1 hn
  exact ⟨n, h1, rfl, rfl, by simpa using h2⟩
 rintro ⟨n, h1, h2, h3, h4⟩
 refine ⟨n, List.mem_filter.2 ⟨h1, by simpa using h4⟩, ?_⟩
 obtain ⟨d, x⟩ := t
 simp only at h2 h3
 rw [h2, h3]
theorem Asc.turnsOf {l : List Nd} (h : Asc l) : AscT (turnsOf l) := by
 rw [ascT_iff]
 unfold Pm.turnsOf
 rw [List.map_map]
 have h2 := h.filter (fun n => n.turn != 0)
 intro i j hi hj hij
 simp only [List.length_map] at hi hj
 simp only [List.getElem_map]
 exact h2 i j hi hj hij
theorem findT_of {l : List Tu} (h : AscT l) {t : Tu} (ht : t ∈ l) : findT l t.dir = some t := by
 have := find_of (ascT_iff.1 h) (mem_map_tn.2 ht)
 rw [find_tn] at this
 cases hf : findT l (tn t).path with
 | none => rw [hf] at this; cases this
 | some s => ?_
 rw [hf] at this
 rw [show t.dir = (tn t).path from rfl, hf]
 rw [tn_inj (Option.some.inj this)]
theorem findT_turnsOf {l : List Nd} (h : Asc l) (p : Bs) : findT (turnsOf l) p = (find l p).bind (fun n => if n.turn ≠ 0 then some ⟨p, n.turn⟩ else none) := by
 cases hf : find l p with
 | none =>
  rw [Option.bind_none, findT_none]
  intro t ht e
  obtain ⟨n, hn, h1, _⟩ := mem_turnsOf.1 ht
  exact find_none.1 hf n hn (h1.trans e)
 | some n => ?_
 obtain ⟨hn, hp⟩ := find_mem hf
 rw [Option.bind_some]
 split
 ·rename_i h0
  have := findT_of h.turnsOf (t := ⟨p, n.turn⟩) (mem_turnsOf.2 ⟨n, hn, hp, rfl, h0⟩)
  exact this
 rename_i h0
 rw [findT_none]
 intro t ht e
 obtain ⟨m, hm, h1, _, h3⟩ := mem_turnsOf.1 ht
 have := find_of h hm
 rw [h1, e, hf] at this
 rw [← Option.some.inj this] at h3
 exact h0 h3
theorem turnOf_turnsOf {l : List Nd} (h : Asc l) {p : Bs} {n : Nd} (hn : find l p = some n) : turnOf (turnsOf l) p = n.turn := by
 unfold turnOf
 rw [findT_turnsOf h, hn, Option.bind_some]
 by_cases h0 : n.turn = 0
 ·rw [if_neg (by simpa using h0)]; simp [h0]
 rw [if_pos h0]; rfl
theorem mem_setT {l : List Tu} (h : AscT l) (p : Bs) (n : Int) (t : Tu) : t ∈ setT l p n ↔ (t.dir ≠ p ∧ t ∈ l) ∨ (n ≠ 0 ∧ t = ⟨p, n⟩) := by
 rw [setT_eq h]
 have hm : ∀ k, t ∈ insT (l.filter (fun t => t.dir != p)) k ⟨p, n⟩ ↔ t = ⟨p, n⟩ ∨ t ∈ l.filter (fun t => t.dir != p) := by
  intro k
  refine ⟨mem_insT, fun h => ?_⟩
  unfold insT
  rw [List.mem_append, List.mem_cons]
  rcases h with h | h
  ·exact .inr (.inl h)
  rw [← List.take_append_drop k (l.filter _), List.mem_append] at h
  rcases h with h | h
  ·exact .inl h
  exact .inr (.inr h)
 have hf : t ∈ l.filter (fun t => t.dir != p) ↔ t.dir ≠ p ∧ t ∈ l := by
  rw [List.mem_filter]; simp [and_comm]
 split
 ·rename_i h0
  rw [hm, hf]
  exact ⟨fun k => k.elim (fun e => .inr ⟨h0, e⟩) .inl, fun k => k.elim .inr (fun e => .inl e.2)⟩
 rename_i h0
 rw [hf]
 exact ⟨.inl, fun k => k.elim id (fun e => absurd e.1 h0)⟩
theorem ascT_setT {l : List Tu} (h : AscT l) (p : Bs) (n : Int) : AscT (setT l p n) := by
 rw [setT_eq h]
 have hA := ascT_filter h (fun t => t.dir != p)
 split
 ·exact ascT_ins hA n (by rw [findT_none]; intro t ht; have := (List.mem_filter.1 ht).2; simpa using this)
 exact hA
theorem setT_turnsOf {l : List Nd} (h : Asc l) {p : Bs} {x : Nd} (hx : find l p = some x) (t : Int) : setT (turnsOf l) p t = turnsOf (l.set (place l p) { x with turn := t }) := by
 obtain ⟨hk, e⟩ := find_at h hx
 obtain ⟨hxm, hxp⟩ := find_mem hx
 have hA : Asc (l.set (place l p) { x with turn := t }) := h.set hk _ (by rw [e])
 refine ascT_ext (ascT_setT h.turnsOf p t) hA.turnsOf (fun s => ?_)
 rw [mem_setT h.turnsOf, mem_turnsOf, mem_turnsOf]
 have hfs := fun q => find_set h hk { x with turn := t } (by rw [e]) q
 constructor
 ·rintro (⟨h1, n, h2, h3, h4, h5⟩ | ⟨h1, rfl⟩)
  ·refine ⟨n, ?_, h3, h4, h5⟩
   have := hfs n.path
   rw [if_neg (fun k => h1 (by rw [← h3, k]; exact hxp)), find_of h h2] at this
   exact (find_mem this).1
  exact ⟨{ x with turn := t }, List.mem_set hk _, hxp, rfl, h1⟩
 rintro ⟨n, h2, h3, h4, h5⟩
 have hn := find_of hA h2
 rw [hfs] at hn
 by_cases hp : n.path = x.path
 ·rw [if_pos hp] at hn
  obtain rfl := (Option.some.inj hn).symm
  refine .inr ⟨fun k => h5 k, ?_⟩
  obtain ⟨d, y⟩ := s
  simp only at h3 h4
  rw [← h3, ← h4, hxp]
 rw [if_neg hp] at hn
 exact .inl ⟨fun k => hp (by rw [hxp, ← k, h3]), n, (find_mem hn).1, h3, h4, h5⟩
theorem kn_set (l : List Nd) (i : Nat) (y : Nd) : (l.set i y).map kn = (l.map kn).set i (kn y) := List.map_set ..
theorem kn_ins (l : List Nd) (k : Nat) (x : Nd) : (ins l k x).map kn = ins (l.map kn) k (kn x) := by
 unfold ins; rw [List.map_append, List.map_cons, List.map_take, List.map_drop]
theorem set_same {l : List Nd} {i : Nat} {x : Nd} (hi : i < l.length) (e : l[i] = x) : l.set i x = l := by rw [← e]; exact List.set_getElem_self hi
theorem turnsOf_same {a b : List Nd} (ha : Asc a) (hb : Asc b) (h : ∀ n : Nd, n.turn ≠ 0 → ((∃ m ∈ a, m.path = n.path ∧ m.turn = n.turn) ↔ ∃ m ∈ b, m.path = n.path ∧ m.turn = n.turn)) : turnsOf a = turnsOf b := by
 refine ascT_ext ha.turnsOf hb.turnsOf (fun s => ?_)
 rw [mem_turnsOf, mem_turnsOf]
 constructor
 ·rintro ⟨n, h2, h3, h4, h5⟩
  obtain ⟨m, k1, k2, k3⟩ := (h n h5).1 ⟨n, h2, rfl, rfl⟩
  exact ⟨m, k1, k2.trans h3, k3.trans h4, by rw [k3]; exact h5⟩
 rintro ⟨n, h2, h3, h4, h5⟩
 obtain ⟨m, k1, k2, k3⟩ := (h n h5).2 ⟨n, h2, rfl, rfl⟩
 exact ⟨m, k1, k2.trans h3, k3.trans h4, by rw [k3]; exact h5⟩
theorem Tr.turnB {l : List Nd} (h : Tr l) {n : Nd} (hn : n ∈ l) : 0 ≤ n.turn ∧ n.turn ≤ 10000 := by
 have := (fits_iff n).1 (h.fit n hn); omega
theorem Tr.store {l : List Nd} (h : Tr l) : StR (keep l) := by
 refine ⟨fun n hn => ?_, h.asc.kn, fun t ht => ?_, h.asc.turnsOf⟩
 ·obtain ⟨m, hm, rfl⟩ := List.mem_map.1 hn
  have hf := (fits_iff m).1 (h.fit m hm)
  obtain ⟨ps, hs⟩ := h.valid hm
  rw [sfit_iff]
  refine ⟨by show (split m.path).isSome = true; rw [hs]; rfl, hf.1, rfl, fun k => ?_, hf.2.1, hf.2.2.1, hf.2.2.2.2.2.1, hf.2.2.2.2.2.2.1⟩
  obtain ⟨r, hr, h0⟩ := h.root
  have := find_of h.asc hm
  rw [show m.path = [47] from k.1, hr] at this
  rw [Option.some.inj this] at h0
  exact k.2 h0
 obtain ⟨m, hm, h1, h2, h3⟩ := mem_turnsOf.1 ht
 obtain ⟨ps, hs⟩ := h.valid hm
 have hb := h.turnB hm
 unfold Pm.tfit
 rw [← h1, ← h2, hs]
 simp only [Option.isSome_some, Bool.true_and, decide_eq_true_eq]; omega
inductive Runs (s : St) (ps : List Pt) : Nat → St → List Res → Prop where
 | zero : Runs s ps 0 s []
 | succ {k : Nat} {now x : St} {rs : List Res} {r : Res} (h : Runs s ps k now rs) (hk : k < ps.length) (ha : applyP now ps[k] = (x, r)) (h0 : r.err = 0) : Runs s ps (k + 1) x (rs ++ [r])
theorem Runs.det {s : St} {ps : List Pt} {k : Nat} {a b : St} {r q : List Res} (h : Runs s ps k a r) (g : Runs s ps k b q) : a = b ∧ r = q := by
 induction h generalizing b q with
 | zero => cases g with | zero => exact ⟨rfl, rfl⟩
 | succ h hk ha h0 ih =>
  cases g with
  | succ g hk' ha' h0' => ?_
  obtain ⟨rfl, rfl⟩ := ih g
  rw [ha] at ha'
  injection ha' with e1 e2
  subst e1 e2
  exact ⟨rfl, rfl⟩
theorem Runs.len {s : St} {ps : List Pt} {k : Nat} {a : St} {r : List Res} (h : Runs s ps k a r) : r.length = k := by
 induction h with
 | zero => rfl
 | succ h hk ha h0 ih => rw [List.length_append, ih]; rfl
theorem Runs.back {s : St} {ps : List Pt} {k : Nat} {a : St} {r : List Res} (h : Runs s ps k a r) {j : Nat} (hj : j < k) : ∃ now rs, Runs s ps j now rs ∧ ∃ hj : j < ps.length, (applyP now ps[j]).2.err = 0 := by
 induction h with
 | zero => omega
 | @succ k now x rs r h hk ha h0 ih =>
  by_cases e : j = k
  ·subst e; exact ⟨now, rs, h, hk, by rw [ha]; exact h0⟩
  exact ih (by omega)
theorem Runs.more {s : St} {ps qs : List Pt} {k : Nat} {a : St} {r : List Res} (h : Runs s ps k a r) : Runs s (ps ++ qs) k a r := by
 induction h with
 | zero => exact .zero
 | succ h hk ha h0 ih => exact .succ ih (by rw [List.length_append]; omega) (by rw [List.getElem_append_left hk]; exact ha) h0
theorem Runs.app {s a : St} {ps qs : List Pt} {r : List Res} (h : Runs s ps ps.length a r) {k : Nat} {b : St} {q : List Res} (g : Runs a qs k b q) : Runs s (ps ++ qs) (ps.length + k) b (r ++ q) := by
 induction g with
 | zero => rw [Nat.add_zero, List.append_nil]; exact h.more
 | @succ k now x rs r' g hk ha h0 ih =>
  rw [← List.append_assoc]
  have hlt : ps.length + k < (ps ++ qs).length := by rw [List.length_append]; omega
  have e : (ps ++ qs)[ps.length + k] = qs[k] := by rw [List.getElem_append_right (by omega)]; simp only [Nat.add_sub_cancel_left]
  exact .succ (k := ps.length + k) ih hlt (by rw [e]; exact ha) h0
end Pm
namespace Pm
def Acts (s : St) (ps : List Pt) (e : Int) (y : St) : Prop :=
 (e = 0 ∧ ∃ rs, Runs s ps ps.length y rs) ∨ (e ≠ 0 ∧ ∃ k now rs, ∃ hk : k < ps.length, Runs s ps k now rs ∧ (applyP now ps[k]).2.err = e)
theorem acts1 {s y : St} {p : Pt} (h : (applyP s p).2.err = 0 → (applyP s p).1 = y) : Acts s [p] (applyP s p).2.err y := by
 by_cases h0 : (applyP s p).2.err = 0
 ·exact .inl ⟨h0, _, by rw [← h h0]; exact .succ .zero (by simp) rfl h0⟩
 exact .inr ⟨h0, 0, s, [], by simp, .zero, rfl⟩
theorem acts2a {s y : St} {p q : Pt} (h : (applyP s p).2.err ≠ 0) : Acts s [p, q] (applyP s p).2.err y := .inr ⟨h, 0, s, [], by simp, .zero, rfl⟩
theorem acts2b {s x y : St} {p q : Pt} {r : Res} (ha : applyP s p = (x, r)) (hr : r.err = 0) (h : (applyP x q).2.err = 0 → (applyP x q).1 = y) : Acts s [p, q] (applyP x q).2.err y := by
 have h1 : Runs s [p, q] 1 x [r] := .succ .zero (by simp) ha hr
 by_cases h0 : (applyP x q).2.err = 0
 ·exact .inl ⟨h0, _, by rw [← h h0]; exact .succ h1 (by simp) rfl h0⟩
 exact .inr ⟨h0, 1, x, [r], by simp, h1, rfl⟩
theorem upB_of {p u : Bs} (h : parent p = some u) : upB p = u := by unfold upB; rw [h]; rfl
theorem turnsOf_erase {l : List Nd} (h : Asc l) {p : Bs} {x : Nd} (hx : find l p = some x) : turnsOf (l.eraseIdx (place l p)) = setT (turnsOf l) p 0 := by
 rw [filter_erase h hx]
 have hA := h.filter (fun n => n.path != p)
 refine ascT_ext hA.turnsOf (ascT_setT h.turnsOf p 0) (fun s => ?_)
 rw [mem_setT h.turnsOf, mem_turnsOf, mem_turnsOf]
 constructor
 ·rintro ⟨n, h2, h3, h4, h5⟩
  obtain ⟨a, b⟩ := List.mem_filter.1 h2
  exact .inl ⟨by rw [← h3]; simpa using b, n, a, h3, h4, h5⟩
 rintro (⟨h1, n, h2, h3, h4, h5⟩ | ⟨h1, _⟩)
 ·exact ⟨n, List.mem_filter.2 ⟨h2, by rw [h3]; simpa using h1⟩, h3, h4, h5⟩
 exact absurd rfl h1
theorem kids_erase {l : List Nd} (h : Asc l) {p : Bs} {x : Nd} (hx : find l p = some x) : kids (l.eraseIdx (place l p)) p = kids l p := by
 rw [filter_erase h hx]
 unfold kids
 rw [List.filter_filter]
 apply List.filter_congr
 intro n _
 by_cases e : n.path = p
 ·have : parent n.path ≠ some p := fun k => by have := parent_lt k; rw [e, lt_irrefl] at this; cases this
  simp [this]
 simp [e]
theorem keep_erase {l : List Nd} (h : Asc l) {p : Bs} {x : Nd} (hx : find l p = some x) : keep (l.eraseIdx (place l p)) = ⟨(l.map kn).eraseIdx (place l p), setT (turnsOf l) p 0⟩ := by
 unfold keep
 rw [turnsOf_erase h hx]
 congr 1
 generalize place l p = k
 clear hx h
 induction l generalizing k with
 | nil => simp
 | cons a l ih =>
  cases k with
  | zero => rfl
  | succ k => rw [List.eraseIdx_cons_succ, List.map_cons, List.map_cons, List.eraseIdx_cons_succ, ih]
theorem keep_set {l : List Nd} (h : Asc l) {p : Bs} {x : Nd} (hx : find l p = some x) (d : Bs) (v : Int) : keep (l.set (place l p) { x with data := d, ver := v }) = ⟨(l.map kn).set (place l p) { kn x with data := d, ver := v }, turnsOf l⟩ := by
 obtain ⟨hk, e⟩ := find_at h hx
 unfold keep
 rw [kn_set]
 have hA : Asc (l.set (place l p) { x with data := d, ver := v }) := h.set hk _ (by rw [e])
 rw [turnsOf_same hA h (fun n hn => ?_)]
 ·rfl
 have hfs := fun q => find_set h hk { x with data := d, ver := v } (by rw [e]) q
 constructor
 ·rintro ⟨m, h1, h2, h3⟩
  have hm := find_of hA h1
  rw [hfs] at hm
  by_cases hp : m.path = x.path
  ·rw [if_pos hp] at hm
   obtain rfl := (Option.some.inj hm).symm
   exact ⟨x, (find_mem hx).1, h2, h3⟩
  rw [if_neg hp] at hm
  exact ⟨m, (find_mem hm).1, h2, h3⟩
 rintro ⟨m, h1, h2, h3⟩
 have hm := find_of h h1
 by_cases hp : m.path = x.path
 ·have : x = m := by have := find_of h (find_mem hx).1; rw [← hp, hm] at this; exact (Option.some.inj this).symm
  subst this
  exact ⟨_, List.mem_set hk _, h2, h3⟩
 have := hfs m.path
 rw [if_neg hp, hm] at this
 exact ⟨m, (find_mem this).1, h2, h3⟩
theorem keep_sweep {l : List Nd} (h : Tr l) (o : Opn) (h0 : o.own ≠ 0) : keep (l.filter (fun n => !swept o n)) = ⟨(l.map kn).filter (fun n => !swept o n), turnsOf l⟩ := by
 unfold keep
 rw [filter_kn l (fun n => !swept o n) (fun _ => rfl)]
 congr 1
 refine turnsOf_same (h.asc.filter _) h.asc (fun n hn => ⟨fun ⟨m, h1, h2⟩ => ⟨m, (List.mem_filter.1 h1).1, h2⟩, fun ⟨m, h1, h2, h3⟩ => ⟨m, List.mem_filter.2 ⟨h1, ?_⟩, h2, h3⟩⟩)
 have hf := (fits_iff m).1 (h.fit m h1)
 have : m.own = 0 := by rcases hf.2.2.2.2.2.2.2 with k | k; exact k; rw [h3] at k; exact absurd k hn
 unfold swept
 rw [this]
 have : ((0 : Int) == o.own) = false := beq_eq_false_iff_ne.2 (fun e => h0 e.symm)
 rw [this]; rfl
theorem create_keep {l : List Nd} (h : Tr l) {o : Opn} {u p : Bs} {x : Nd} (hx : find l u = some x) (h0 : x.own = 0) (hn : named o u x.turn = some p) (hp : find l p = none) (_ : l.length < 512) (hu : parent o.path = some u) :
  keep (ins (if o.turns = true then l.set (place l u) { x with turn := x.turn + 1 } else l) (place l p) ⟨p, o.data, 0, 0, o.own⟩) =
   ⟨ins (l.map kn) (place (l.map kn) p) ⟨p, o.data, 0, 0, o.own⟩, if o.turns = true then setT (turnsOf l) u (x.turn + 1) else turnsOf l⟩ := by
 have hT := h.turned hx h0 hn
 obtain ⟨f1, f2, f3⟩ := turned_facts (o := o) h hx
 have hpu := named_parent hu hn
 have hup : p ≠ u := fun e => by have := parent_lt hpu; rw [e, lt_irrefl] at this; cases this
 unfold keep
 rw [kn_ins, place_kn]
 have e1 : (if o.turns = true then l.set (place l u) { x with turn := x.turn + 1 } else l).map kn = l.map kn := by
  split
  ·obtain ⟨hk, e⟩ := find_at h.asc hx
   rw [kn_set]
   exact set_same (by rw [List.length_map]; exact hk) (by rw [List.getElem_map, e]; rfl)
  rfl
 rw [e1]
 congr 1
 have e2 : (if o.turns = true then setT (turnsOf l) u (x.turn + 1) else turnsOf l) = turnsOf (if o.turns = true then l.set (place l u) { x with turn := x.turn + 1 } else l) := by
  split
  ·exact setT_turnsOf h.asc hx _
  rfl
 rw [e2]
 have hnp : find (if o.turns = true then l.set (place l u) { x with turn := x.turn + 1 } else l) p = none := by rw [f1, if_neg (fun k => hup k.2)]; exact hp
 have hA := hT.asc.ins ⟨p, o.data, 0, 0, o.own⟩ hnp
 rw [f2 p] at hA
 refine turnsOf_same hA hT.asc (fun n hn => ?_)
 constructor
 ·rintro ⟨m, h1, h2, h3⟩
  rcases mem_ins.1 h1 with rfl | h1
  ·exact absurd h3.symm hn
  exact ⟨m, h1, h2, h3⟩
 rintro ⟨m, h1, h2, h3⟩
 exact ⟨m, mem_ins.2 (.inr h1), h2, h3⟩
set_option maxHeartbeats 1000000 in
theorem parts_do {l : List Nd} (h : Tr l) {o : Opn} (hm : may o = true) (hl : l.length < 512) : Acts (keep l) (partsOf o) (perform l o).2.err (keep (perform l o).1) := by
 have hS := h.store
 have hpm := partsOf_may o
 have hA := h.asc
 have hv : -1 ≤ o.ver ∨ ¬ (o.kind = 2 ∨ o.kind = 3 ∨ o.kind = 4) := by
  by_cases hk : o.kind = 2 ∨ o.kind = 3 ∨ o.kind = 4
  ·left
   unfold may at hm
   simp only [Bool.and_eq_true] at hm
   have := hm.2
   rcases hk with k | k | k <;> simp [k] at this <;> omega
  exact .inr hk
 have hfk : ∀ p, find (keep l).nodes p = (find l p).map kn := find_kn l
 have hpk : ∀ p, place (keep l).nodes p = place l p := place_kn l
 have hkk : ∀ p, kids (keep l).nodes p = (kids l p).map kn := kids_kn l
 have hkid : ∀ p, (kids (keep l).nodes p = []) = (kids l p = []) := fun p => by rw [hkk]; simp
 have hkind := may_kind hm
 unfold partsOf at hpm ⊢
 rw [if_pos hm] at hpm ⊢
 by_cases k1 : o.kind = 1
 ·rw [if_pos k1] at hpm ⊢
  obtain ⟨u, hu⟩ := may_parent hm (.inl k1)
  rw [upB_of hu] at hpm ⊢
  have m1 := (hpm _ (List.mem_cons_self ..)).1
  have m2 := (hpm _ (List.mem_cons_of_mem _ (List.mem_cons_self ..))).1
  have e1 : applyP (keep l) ⟨1, upB u, u, [], 0, 0, false⟩ = (match find l u with | none => (keep l, .bad 62) | some n => if n.own ≠ 0 then (keep l, .bad 65) else (keep l, okR)) := by
   rw [applyP_yes hS m1]
   unfold doP
   simp only [hfk]
   cases find l u with
   | none => simp
   | some n => simp [versionedP, kn]
  unfold perform
  rw [if_pos k1]
  unfold create
  simp only [hu, Option.getD_some]
  cases hx : find l u with
  | none =>
   rw [hx] at e1
   simp only
   have := acts2a (y := keep l) (q := ⟨2, u, o.path, o.data, 0, o.own, o.turns⟩) (by rw [e1]; simp [Res.bad])
   rw [e1] at this; exact this
  | some x => ?_
  rw [hx] at e1
  simp only at e1 ⊢
  by_cases h0 : x.own = 0
  ·rw [if_neg (by simpa using h0)] at e1 ⊢
   have e2 : applyP (keep l) ⟨2, u, o.path, o.data, 0, o.own, o.turns⟩ = (match named o u x.turn with
     | none => (keep l, .bad 66)
     | some q => if (find l q).isSome = true then (keep l, .bad 61) else (⟨ins (l.map kn) (place (l.map kn) q) ⟨q, o.data, 0, 0, o.own⟩, if o.turns = true then setT (turnsOf l) u (x.turn + 1) else turnsOf l⟩, ⟨0, q, [], 0, []⟩)) := by
    rw [applyP_yes hS m2]
    unfold doP putS newPath named
    simp only [if_true]
    have ht : turnOf (keep l).turns u = x.turn := turnOf_turnsOf hA hx
    rw [ht]
    cases (if o.turns = true then (numbered (last o.path) x.turn).bind (join u) else some o.path) with
    | none => rfl
    | some q => ?_
    simp only [hfk, Option.isSome_map]
    rfl
   cases hn : named o u x.turn with
   | none =>
    rw [hn] at e2
    simp only at e2 ⊢
    have := acts2b (q := ⟨2, u, o.path, o.data, 0, o.own, o.turns⟩) (y := keep l) e1 rfl (by rw [e2]; intro _; rfl)
    rw [e2] at this; exact this
   | some p => ?_
   rw [hn] at e2
   simp only at e2 ⊢
   by_cases hp : (find l p).isSome = true
   ·rw [if_pos hp] at e2 ⊢
    have := acts2b (q := ⟨2, u, o.path, o.data, 0, o.own, o.turns⟩) (y := keep l) e1 rfl (by rw [e2]; intro _; rfl)
    rw [e2] at this; exact this
   rw [if_neg hp] at e2 ⊢
   rw [if_neg (by omega)]
   have hk := create_keep h hx h0 hn (by simpa using hp) hl hu
   have := acts2b (q := ⟨2, u, o.path, o.data, 0, o.own, o.turns⟩) e1 rfl (by rw [e2]; intro _; exact hk.symm)
   rw [e2] at this; exact this
  rw [if_pos h0] at e1 ⊢
  have := acts2a (y := keep l) (q := ⟨2, u, o.path, o.data, 0, o.own, o.turns⟩) (by rw [e1]; simp [Res.bad])
  rw [e1] at this; exact this
 rw [if_neg k1] at hpm ⊢
 unfold perform
 rw [if_neg k1]
 have ver : ∀ x : Nd, (0 ≤ o.ver ∧ o.ver ≠ x.ver) = (o.ver ≠ -1 ∧ o.ver ≠ x.ver) ∨ ¬ (o.kind = 2 ∨ o.kind = 3 ∨ o.kind = 4) := fun x => by
  rcases hv with hv | hv
  ·left; apply propext; constructor <;> intro h <;> exact ⟨by omega, h.2⟩
  exact .inr hv
 by_cases k2 : o.kind = 2
 ·rw [if_pos k2] at hpm ⊢
  have m1 := (hpm _ (List.mem_cons_self ..)).1
  have m2 := (hpm _ (List.mem_cons_of_mem _ (List.mem_cons_self ..))).1
  have e1 : applyP (keep l) ⟨3, upB o.path, o.path, [], o.ver, 0, false⟩ = (match find l o.path with | none => (keep l, .bad 62) | some n => if 0 ≤ o.ver ∧ o.ver ≠ n.ver then (keep l, .bad 63) else (⟨(l.map kn).eraseIdx (place l o.path), turnsOf l⟩, okR)) := by
   rw [applyP_yes hS m1]
   unfold doP
   simp only [hfk, hpk]
   cases find l o.path with
   | none => simp
   | some n => simp [versionedP, kn]; rfl
  cases hx : find l o.path with
  | none =>
   rw [hx] at e1
   simp only
   have := acts2a (y := keep l) (q := ⟨4, o.path, o.path, [], 0, 0, false⟩) (by rw [e1]; simp [Res.bad])
   rw [e1] at this; exact this
  | some x => ?_
  rw [hx] at e1
  simp only at e1 ⊢
  have hvx : (0 ≤ o.ver ∧ o.ver ≠ x.ver) = (versioned o.kind = true ∧ o.ver ≠ -1 ∧ o.ver ≠ x.ver) := by
   rcases ver x with e | e
   ·rw [e]; simp [versioned, k2]
   exact absurd (.inl k2) e
  by_cases hc : versioned o.kind = true ∧ o.ver ≠ -1 ∧ o.ver ≠ x.ver
  ·rw [if_pos (hvx.mpr hc)] at e1
   rw [if_pos hc]
   have := acts2a (y := keep l) (q := ⟨4, o.path, o.path, [], 0, 0, false⟩) (by rw [e1]; simp [Res.bad])
   rw [e1] at this; exact this
  rw [if_neg (fun k => hc (hvx.mp k))] at e1
  rw [if_neg hc]
  unfold doit
  rw [if_pos k2]
  have hS2 : StR ⟨(l.map kn).eraseIdx (place l o.path), turnsOf l⟩ := by
   have := hS.doP m1
   rw [← applyP_yes hS m1, e1] at this; exact this
  have e2 : applyP ⟨(l.map kn).eraseIdx (place l o.path), turnsOf l⟩ ⟨4, o.path, o.path, [], 0, 0, false⟩ = if kids l o.path = [] then (keep (l.eraseIdx (place l o.path)), okR) else (⟨(l.map kn).eraseIdx (place l o.path), turnsOf l⟩, .bad 64) := by
   rw [applyP_yes hS2 m2]
   have hkd : kids ((l.map kn).eraseIdx (place l o.path)) o.path = (kids l o.path).map kn := by
    have := kids_erase hA.kn (p := o.path) (x := kn x) (by rw [find_kn, hx]; rfl)
    rw [place_kn] at this; rw [this]; exact kids_kn l _
   rw [keep_erase hA hx]
   unfold doP
   simp [hkd]
  by_cases hkd : kids l o.path = []
  ·rw [if_pos hkd] at e2 ⊢
   have := acts2b (q := ⟨4, o.path, o.path, [], 0, 0, false⟩) e1 rfl (by rw [e2]; intro _; exact rfl)
   rw [e2] at this; exact this
  rw [if_neg hkd] at e2 ⊢
  have := acts2b (q := ⟨4, o.path, o.path, [], 0, 0, false⟩) (y := keep l) e1 rfl (by rw [e2]; intro k; simp [Res.bad] at k)
  rw [e2] at this; exact this
 rw [if_neg k2] at hpm ⊢
 by_cases k3 : o.kind = 3
 ·rw [if_pos k3] at hpm ⊢
  have m1 := (hpm _ (List.mem_cons_self ..)).1
  have e1 : applyP (keep l) ⟨5, upB o.path, o.path, o.data, o.ver, 0, false⟩ = (match find l o.path with | none => (keep l, .bad 62) | some n => if 0 ≤ o.ver ∧ o.ver ≠ n.ver then (keep l, .bad 63) else if n.ver = 281474976710656 then (keep l, .bad 2) else (⟨(l.map kn).set (place l o.path) { kn n with data := o.data, ver := n.ver + 1 }, turnsOf l⟩, ⟨0, [], [], n.ver + 1, []⟩)) := by
   rw [applyP_yes hS m1]
   unfold doP
   simp only [hfk, hpk]
   cases find l o.path with
   | none => simp
   | some n => simp [versionedP, kn]; rfl
  cases hx : find l o.path with
  | none =>
   rw [hx] at e1
   simp only
   have := acts1 (y := keep l) (s := keep l) (p := ⟨5, upB o.path, o.path, o.data, o.ver, 0, false⟩) (by rw [e1]; intro _; rfl)
   rw [e1] at this; exact this
  | some x => ?_
  rw [hx] at e1
  simp only at e1 ⊢
  have hvx : (0 ≤ o.ver ∧ o.ver ≠ x.ver) = (versioned o.kind = true ∧ o.ver ≠ -1 ∧ o.ver ≠ x.ver) := by
   rcases ver x with e | e
   ·rw [e]; simp [versioned, k3]
   exact absurd (.inr (.inl k3)) e
  by_cases hc : versioned o.kind = true ∧ o.ver ≠ -1 ∧ o.ver ≠ x.ver
  ·rw [if_pos (hvx.mpr hc)] at e1
   rw [if_pos hc]
   have := acts1 (y := keep l) (s := keep l) (p := ⟨5, upB o.path, o.path, o.data, o.ver, 0, false⟩) (by rw [e1]; intro _; rfl)
   rw [e1] at this; exact this
  rw [if_neg (fun k => hc (hvx.mp k))] at e1
  rw [if_neg hc]
  unfold doit
  rw [if_neg k2, if_pos k3]
  by_cases hvm : x.ver = 281474976710656
  ·rw [if_pos hvm] at e1 ⊢
   have := acts1 (y := keep l) (s := keep l) (p := ⟨5, upB o.path, o.path, o.data, o.ver, 0, false⟩) (by rw [e1]; intro _; rfl)
   rw [e1] at this; exact this
  rw [if_neg hvm] at e1 ⊢
  have := acts1 (y := keep (l.set (place l o.path) { x with data := o.data, ver := x.ver + 1 })) (s := keep l) (p := ⟨5, upB o.path, o.path, o.data, o.ver, 0, false⟩) (by rw [e1]; intro _; exact (keep_set hA hx _ _).symm)
  rw [e1] at this; exact this
 rw [if_neg k3] at hpm ⊢
 by_cases k4 : o.kind = 4
 ·rw [if_pos k4] at hpm ⊢
  have m1 := (hpm _ (List.mem_cons_self ..)).1
  have e1 : applyP (keep l) ⟨6, upB o.path, o.path, [], o.ver, 0, false⟩ = (match find l o.path with | none => (keep l, .bad 62) | some n => if 0 ≤ o.ver ∧ o.ver ≠ n.ver then (keep l, .bad 63) else (keep l, ⟨0, [], [], n.ver, []⟩)) := by
   rw [applyP_yes hS m1]
   unfold doP
   simp only [hfk, hpk]
   cases find l o.path with
   | none => simp
   | some n => simp [versionedP, kn]
  cases hx : find l o.path with
  | none =>
   rw [hx] at e1
   simp only
   have := acts1 (y := keep l) (s := keep l) (p := ⟨6, upB o.path, o.path, [], o.ver, 0, false⟩) (by rw [e1]; intro _; rfl)
   rw [e1] at this; exact this
  | some x => ?_
  rw [hx] at e1
  simp only at e1 ⊢
  have hvx : (0 ≤ o.ver ∧ o.ver ≠ x.ver) = (versioned o.kind = true ∧ o.ver ≠ -1 ∧ o.ver ≠ x.ver) := by
   rcases ver x with e | e
   ·rw [e]; simp [versioned, k4]
   exact absurd (.inr (.inr k4)) e
  by_cases hc : versioned o.kind = true ∧ o.ver ≠ -1 ∧ o.ver ≠ x.ver
  ·rw [if_pos (hvx.mpr hc)] at e1
   rw [if_pos hc]
   have := acts1 (y := keep l) (s := keep l) (p := ⟨6, upB o.path, o.path, [], o.ver, 0, false⟩) (by rw [e1]; intro _; rfl)
   rw [e1] at this; exact this
  rw [if_neg (fun k => hc (hvx.mp k))] at e1
  rw [if_neg hc]
  unfold doit
  rw [if_neg k2, if_neg k3, if_pos k4]
  have := acts1 (y := keep l) (s := keep l) (p := ⟨6, upB o.path, o.path, [], o.ver, 0, false⟩) (by rw [e1]; intro _; rfl)
  rw [e1] at this; exact this
 rw [if_neg k4] at hpm ⊢
 have hnv : ∀ x : Nd, ¬ (versioned o.kind = true ∧ o.ver ≠ -1 ∧ o.ver ≠ x.ver) := fun x k => by
  have := k.1
  unfold versioned at this
  simp [k2, k3, k4] at this
 by_cases k5 : o.kind = 5
 ·rw [if_pos k5] at hpm ⊢
  have m1 := (hpm _ (List.mem_cons_self ..)).1
  have e1 : applyP (keep l) ⟨7, upB o.path, o.path, [], 0, 0, false⟩ = (match find l o.path with | none => (keep l, .bad 62) | some n => (keep l, ⟨0, [], n.data, n.ver, []⟩)) := by
   rw [applyP_yes hS m1]
   unfold doP
   simp only [hfk, hpk]
   cases find l o.path with
   | none => simp
   | some n => simp [versionedP, kn]
  cases hx : find l o.path with
  | none =>
   rw [hx] at e1
   simp only
   have := acts1 (y := keep l) (s := keep l) (p := ⟨7, upB o.path, o.path, [], 0, 0, false⟩) (by rw [e1]; intro _; rfl)
   rw [e1] at this; exact this
  | some x => ?_
  rw [hx] at e1
  simp only at e1 ⊢
  rw [if_neg (hnv x)]
  unfold doit
  rw [if_neg k2, if_neg k3, if_neg k4, if_pos k5]
  have := acts1 (y := keep l) (s := keep l) (p := ⟨7, upB o.path, o.path, [], 0, 0, false⟩) (by rw [e1]; intro _; rfl)
  rw [e1] at this; exact this
 rw [if_neg k5] at hpm ⊢
 have eh : mayP ⟨8, upB o.path, o.path, [], 0, 0, false⟩ = true → applyP (keep l) ⟨8, upB o.path, o.path, [], 0, 0, false⟩ = (match find l o.path with | none => (keep l, .bad 62) | some n => (keep l, okR)) := fun m1 => by
  rw [applyP_yes hS m1]
  unfold doP
  simp only [hfk, hpk]
  cases find l o.path with
  | none => simp
  | some n => simp [versionedP]
 by_cases k6 : o.kind = 6
 ·rw [if_pos k6] at hpm ⊢
  have m1 := (hpm _ (List.mem_cons_self ..)).1
  have m2 := (hpm _ (List.mem_cons_of_mem _ (List.mem_cons_self ..))).1
  have e1 := eh m1
  cases hx : find l o.path with
  | none =>
   rw [hx] at e1
   simp only
   have := acts2a (y := keep l) (q := ⟨9, o.path, o.path, [], 0, 0, false⟩) (by rw [e1]; simp [Res.bad])
   rw [e1] at this; exact this
  | some x => ?_
  rw [hx] at e1
  simp only at e1 ⊢
  rw [if_neg (hnv x)]
  unfold doit
  rw [if_neg k2, if_neg k3, if_neg k4, if_neg k5, if_pos k6]
  have e2 : applyP (keep l) ⟨9, o.path, o.path, [], 0, 0, false⟩ = (keep l, ⟨0, [], [], 0, (kids (keep l).nodes o.path).map (fun n => last n.path)⟩) := by
   rw [applyP_yes hS m2]; unfold doP; simp
  have := acts2b (q := ⟨9, o.path, o.path, [], 0, 0, false⟩) (y := keep l) e1 rfl (by rw [e2]; intro _; rfl)
  rw [e2] at this; exact this
 rw [if_neg k6] at hpm ⊢
 have k7 : o.kind = 7 := by omega
 have m1 := (hpm _ (List.mem_cons_self ..)).1
 have m2 := (hpm _ (List.mem_cons_of_mem _ (List.mem_cons_self ..))).1
 have e1 := eh m1
 cases hx : find l o.path with
 | none =>
  rw [hx] at e1
  simp only
  have := acts2a (y := keep l) (q := ⟨10, o.path, o.path, [], 0, o.own, false⟩) (by rw [e1]; simp [Res.bad])
  rw [e1] at this; exact this
 | some x => ?_
 rw [hx] at e1
 simp only at e1 ⊢
 rw [if_neg (hnv x)]
 unfold doit
 rw [if_neg k2, if_neg k3, if_neg k4, if_neg k5, if_neg k6]
 have h0 : o.own ≠ 0 := by
  unfold may at hm
  simp only [Bool.and_eq_true] at hm
  have := hm.2
  simp [k7] at this; omega
 have e2 : applyP (keep l) ⟨10, o.path, o.path, [], 0, o.own, false⟩ = (⟨(l.map kn).filter (fun n => !swept o n), turnsOf l⟩, ⟨0, [], [], 0, ((keep l).nodes.filter (swept o)).map (fun n => last n.path)⟩) := by
  rw [applyP_yes hS m2]; unfold doP; simp; exact ⟨⟨rfl, rfl⟩, rfl⟩
 have := acts2b (q := ⟨10, o.path, o.path, [], 0, o.own, false⟩) (y := keep (l.filter (fun n => !swept o n))) e1 rfl (by rw [e2]; intro _; exact (keep_sweep h o h0).symm)
 rw [e2] at this; exact this
end Pm
end Go.Proofs.YtphoglepiegeiaaGreatDoor
