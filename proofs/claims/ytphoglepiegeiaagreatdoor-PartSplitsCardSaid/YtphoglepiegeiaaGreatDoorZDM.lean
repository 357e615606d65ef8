/- A text of this proof. -/
import Derived.Test.YtphoglepiegeiaaGreatDoorZDB
import Derived.Test.YtphoglepiegeiaaGreatDoorZDE
import Derived.Test.YtphoglepiegeiaaGreatDoorZDH
set_option linter.unusedSimpArgs false
set_option linter.unusedVariables false
namespace Go.Proofs.YtphoglepiegeiaaGreatDoor
set_option maxRecDepth 20000
namespace Pm
def kn (n : Nd) : Nd := { n with turn := 0 }
def turnsOf (l : List Nd) : List Tu := (l.filter (fun n => n.turn != 0)).map (fun n => ⟨n.path, n.turn⟩)
def keep (l : List Nd) : St := ⟨l.map kn, turnsOf l⟩
theorem kn_path (n : Nd) : (kn n).path = n.path := rfl
theorem Asc.kn {l : List Nd} (h : Asc l) : Asc (l.map kn) := by
 intro i j hi hj hij
 simp only [List.length_map] at hi hj
 simp only [List.getElem_map]
 exact h i j hi hj hij
theorem find_kn (l : List Nd) (p : Bs) : find (l.map kn) p = (find l p).map kn := by
 unfold find; rw [List.find?_map]; rfl
theorem asc_ext : ∀ {a b : List Nd}, Asc a → Asc b → (∀ n, n ∈ a ↔ n ∈ b) → a = b := by
 intro a
 induction a with
 | nil =>
  intro b _ _ h
  cases b with
  | nil => rfl
  | cons y b => have := (h y).2 (List.mem_cons_self ..); simp at this
 | cons x a ih =>
  intro b ha hb h
  cases b with
  | nil => have := (h x).1 (List.mem_cons_self ..); simp at this
  | cons y b => ?_
  have hxy : x = y := by
   have h1 : x ∈ y :: b := (h x).1 (List.mem_cons_self ..)
   have h2 : y ∈ x :: a := (h y).2 (List.mem_cons_self ..)
   rcases List.mem_cons.1 h1 with e | k1
   ·exact e
   rcases List.mem_cons.1 h2 with e | k2
   ·exact e.symm
   have l1 := hb.head x k1
   have l2 := ha.head y k2
   rw [lt_asymm l1] at l2; cases l2
  subst hxy
  congr 1
  refine ih ha.tail hb.tail (fun n => ⟨fun k => ?_, fun k => ?_⟩)
  ·have := (h n).1 (List.mem_cons_of_mem _ k)
   rcases List.mem_cons.1 this with rfl | e
   ·have := ha.head n k; rw [lt_irrefl] at this; cases this
   exact e
  have := (h n).2 (List.mem_cons_of_mem _ k)
  rcases List.mem_cons.1 this with rfl | e
  ·have := hb.head n k; rw [lt_irrefl] at this; cases this
  exact e
theorem ascT_ext {a b : List Tu} (ha : AscT a) (hb : AscT b) (h : ∀ t, t ∈ a ↔ t ∈ b) : a = b := by
 apply map_tn_inj
 refine asc_ext (ascT_iff.1 ha) (ascT_iff.1 hb) (fun n => ?_)
 rw [List.mem_map, List.mem_map]
 exact ⟨fun ⟨t, k, e⟩ => ⟨t, (h t).1 k, e⟩, fun ⟨t, k, e⟩ => ⟨t, (h t).2 k, e⟩⟩
theorem mem_turnsOf {l : List Nd} {t : Tu} : t ∈ turnsOf l ↔ ∃ n ∈ l, n.path = t.dir ∧ n.turn = t.next ∧ n.turn ≠ 0 := by
 unfold turnsOf
 rw [List.mem_map]
 constructor
 ·rintro ⟨n, hn, rfl⟩
  obtain ⟨h1, h2⟩ := List.mem_filter.1 hn
  exact ⟨n, h1, rfl, rfl, by simpa using h2⟩
 rintro ⟨n, h1, h2, h3, h4⟩
 refine ⟨n, List.mem_filter.2 ⟨h1, by simpa using h4⟩, ?_⟩
 obtain ⟨d, x⟩ := t
 simp only at h2 h3
 rw [h2, h3]
theorem Asc.turnsOf {l : List Nd} (h : Asc l) : AscT (turnsOf l) := by
 rw [ascT_iff]
 unfold Pm.turnsOf
 rw [List.map_map]
 have h2 := h.filter (fun n => n.turn != 0)
 intro i j hi hj hij
 simp only [List.length_map] at hi hj
 simp only [List.getElem_map]
 exact h2 i j hi hj hij
theorem mem_setT {l : List Tu} (h : AscT l) (p : Bs) (n : Int) (t : Tu) : t ∈ setT l p n ↔ (t.dir ≠ p ∧ t ∈ l) ∨ (n ≠ 0 ∧ t = ⟨p, n⟩) := by
 rw [setT_eq h]
 have hm : ∀ k, t ∈ insT (l.filter (fun t => t.dir != p)) k ⟨p, n⟩ ↔ t = ⟨p, n⟩ ∨ t ∈ l.filter (fun t => t.dir != p) := by
  intro k
  refine ⟨mem_insT, fun h => ?_⟩
  unfold insT
  rw [List.mem_append, List.mem_cons]
  rcases h with h | h
  ·exact .inr (.inl h)
  rw [← List.take_append_drop k (l.filter _), List.mem_append] at h
  rcases h with h | h
  ·exact .inl h
  exact .inr (.inr h)
 have hf : t ∈ l.filter (fun t => t.dir != p) ↔ t.dir ≠ p ∧ t ∈ l := by
  rw [List.mem_filter]; simp [and_comm]
 split
 ·rename_i h0
  rw [hm, hf]
  exact ⟨fun k => k.elim (fun e => .inr ⟨h0, e⟩) .inl, fun k => k.elim .inr (fun e => .inl e.2)⟩
 rename_i h0
 rw [hf]
 exact ⟨.inl, fun k => k.elim id (fun e => absurd e.1 h0)⟩
theorem ascT_setT {l : List Tu} (h : AscT l) (p : Bs) (n : Int) : AscT (setT l p n) := by
 rw [setT_eq h]
 have hA := ascT_filter h (fun t => t.dir != p)
 split
 ·exact ascT_ins hA n (by rw [findT_none]; intro t ht; have := (List.mem_filter.1 ht).2; simpa using this)
 exact hA
theorem setT_turnsOf {l : List Nd} (h : Asc l) {p : Bs} {x : Nd} (hx : find l p = some x) (t : Int) : setT (turnsOf l) p t = turnsOf (l.set (place l p) { x with turn := t }) := by
 obtain ⟨hk, e⟩ := find_at h hx
 obtain ⟨hxm, hxp⟩ := find_mem hx
 have hA : Asc (l.set (place l p) { x with turn := t }) := h.set hk _ (by rw [e])
 refine ascT_ext (ascT_setT h.turnsOf p t) hA.turnsOf (fun s => ?_)
 rw [mem_setT h.turnsOf, mem_turnsOf, mem_turnsOf]
 have hfs := fun q => find_set h hk { x with turn := t } (by rw [e]) q
 constructor
 ·rintro (⟨h1, n, h2, h3, h4, h5⟩ | ⟨h1, rfl⟩)
  ·refine ⟨n, ?_, h3, h4, h5⟩
   have := hfs n.path
   rw [if_neg (fun k => h1 (by rw [← h3, k]; exact hxp)), find_of h h2] at this
   exact (find_mem this).1
  exact ⟨{ x with turn := t }, List.mem_set hk _, hxp, rfl, h1⟩
 rintro ⟨n, h2, h3, h4, h5⟩
 have hn := find_of hA h2
 rw [hfs] at hn
 by_cases hp : n.path = x.path
 ·rw [if_pos hp] at hn
  obtain rfl := (Option.some.inj hn).symm
  refine .inr ⟨fun k => h5 k, ?_⟩
  obtain ⟨d, y⟩ := s
  simp only at h3 h4
  rw [← h3, ← h4, hxp]
 rw [if_neg hp] at hn
 exact .inl ⟨fun k => hp (by rw [hxp, ← k, h3]), n, (find_mem hn).1, h3, h4, h5⟩
theorem kn_set (l : List Nd) (i : Nat) (y : Nd) : (l.set i y).map kn = (l.map kn).set i (kn y) := List.map_set ..
theorem set_same {l : List Nd} {i : Nat} {x : Nd} (hi : i < l.length) (e : l[i] = x) : l.set i x = l := by rw [← e]; exact List.set_getElem_self hi
theorem Tr.turnB {l : List Nd} (h : Tr l) {n : Nd} (hn : n ∈ l) : 0 ≤ n.turn ∧ n.turn ≤ 10000 := by
 have := (fits_iff n).1 (h.fit n hn); omega
theorem Tr.store {l : List Nd} (h : Tr l) : StR (keep l) := by
 refine ⟨fun n hn => ?_, h.asc.kn, fun t ht => ?_, h.asc.turnsOf⟩
 ·obtain ⟨m, hm, rfl⟩ := List.mem_map.1 hn
  have hf := (fits_iff m).1 (h.fit m hm)
  obtain ⟨ps, hs⟩ := h.valid hm
  rw [sfit_iff]
  refine ⟨by show (split m.path).isSome = true; rw [hs]; rfl, hf.1, rfl, fun k => ?_, hf.2.1, hf.2.2.1, hf.2.2.2.2.2.1, hf.2.2.2.2.2.2.1⟩
  obtain ⟨r, hr, h0⟩ := h.root
  have := find_of h.asc hm
  rw [show m.path = [47] from k.1, hr] at this
  rw [Option.some.inj this] at h0
  exact k.2 h0
 obtain ⟨m, hm, h1, h2, h3⟩ := mem_turnsOf.1 ht
 obtain ⟨ps, hs⟩ := h.valid hm
 have hb := h.turnB hm
 unfold Pm.tfit
 rw [← h1, ← h2, hs]
 simp only [Option.isSome_some, Bool.true_and, decide_eq_true_eq]; omega
inductive Runs (s : St) (ps : List Pt) : Nat → St → List Res → Prop where
 | zero : Runs s ps 0 s []
 | succ {k : Nat} {now x : St} {rs : List Res} {r : Res} (h : Runs s ps k now rs) (hk : k < ps.length) (ha : applyP now ps[k] = (x, r)) (h0 : r.err = 0) : Runs s ps (k + 1) x (rs ++ [r])
theorem Runs.len {s : St} {ps : List Pt} {k : Nat} {a : St} {r : List Res} (h : Runs s ps k a r) : r.length = k := by
 induction h with
 | zero => rfl
 | succ h hk ha h0 ih => rw [List.length_append, ih]; rfl
end Pm
namespace Pm
def AscW (l : List Nd) : Prop := ∀ i j (hi : i < l.length) (hj : j < l.length), i < j → lt l[j].path l[i].path = false
theorem AscW.tail {a : Nd} {l : List Nd} (h : AscW (a :: l)) : AscW l := fun i j hi hj hij => h (i + 1) (j + 1) (by simp; omega) (by simp; omega) (by omega)
theorem AscW.head {a : Nd} {l : List Nd} (h : AscW (a :: l)) {b : Nd} (hb : b ∈ l) : lt b.path a.path = false := by
 obtain ⟨i, hi, rfl⟩ := List.getElem_of_mem hb
 exact h 0 (i + 1) (by simp) (by simp; omega) (by omega)
theorem AscW.kn {l m : List Nd} (h : AscW l) (e : m.map kn = l.map kn) : AscW m := by
 have hl : m.length = l.length := by have := congrArg List.length e; simpa using this
 have hp : ∀ i (hi : i < m.length) (hj : i < l.length), m[i].path = l[i].path := fun i hi hj => by
  have h1 : (m.map Pm.kn)[i]'(by simpa using hi) = (l.map Pm.kn)[i]'(by simpa using hj) := by simp only [e]
  simp only [List.getElem_map] at h1
  have h2 := congrArg Nd.path h1
  exact h2
 intro i j hi hj hij
 rw [hp i hi (by omega), hp j hj (by omega)]
 exact h i j (by omega) (by omega) hij
theorem Asc.of_kn {l m : List Nd} (h : Asc l) (e : m.map Pm.kn = l.map Pm.kn) : Asc m := by
 have hl : m.length = l.length := by have := congrArg List.length e; simpa using this
 have hp : ∀ i (hi : i < m.length) (hj : i < l.length), m[i].path = l[i].path := fun i hi hj => by
  have h1 : (m.map Pm.kn)[i]'(by simpa using hi) = (l.map Pm.kn)[i]'(by simpa using hj) := by simp only [e]
  simp only [List.getElem_map] at h1
  have h2 := congrArg Nd.path h1
  exact h2
 intro i j hi hj hij
 rw [hp i hi (by omega), hp j hj (by omega)]
 exact h i j (by omega) (by omega) hij
theorem AscW.strict {l : List Nd} (h : AscW l) (hn : (l.map Nd.path).Nodup) : Asc l := by
 intro i j hi hj hij
 refine lt_of (h i j hi hj hij) (fun e => ?_)
 have hp := List.nodup_iff_pairwise_ne.1 hn
 rw [List.pairwise_iff_getElem] at hp
 have := hp i j (by simpa using hi) (by simpa using hj) hij
 simp only [List.getElem_map] at this
 exact this e.symm
theorem Asc.nodup {l : List Nd} (h : Asc l) : (l.map Nd.path).Nodup := by
 rw [List.nodup_iff_pairwise_ne, List.pairwise_iff_getElem]
 intro i j hi hj hij
 simp only [List.length_map] at hi hj
 simp only [List.getElem_map]
 exact lt_ne (h i j hi hj hij)
theorem AscT.nodup {l : List Tu} (h : AscT l) : (l.map Tu.dir).Nodup := by
 rw [List.nodup_iff_pairwise_ne, List.pairwise_iff_getElem]
 intro i j hi hj hij
 simp only [List.length_map] at hi hj
 simp only [List.getElem_map]
 exact lt_ne (h i j hi hj hij)
def give (l : List Nd) (t : Tu) : Option (List Nd) :=
 if h : place l t.dir < l.length then (if l[place l t.dir].path = t.dir ∧ l[place l t.dir].turn = 0 then some (l.set (place l t.dir) { l[place l t.dir] with turn := t.next }) else none) else none
def giveAll : List Nd → List Tu → Option (List Nd)
 | l, [] => some l
 | l, t :: ts => (give l t).bind (fun m => giveAll m ts)
theorem giveAll_app (l : List Nd) (a b : List Tu) : giveAll l (a ++ b) = (giveAll l a).bind (fun m => giveAll m b) := by
 induction a generalizing l with
 | nil => rfl
 | cons t a ih =>
  simp only [List.cons_append, giveAll]
  cases give l t with
  | none => rfl
  | some m => simp only [Option.bind_some]; exact ih m
theorem giveAll_one (l : List Nd) (t : Tu) : giveAll l [t] = give l t := by
 unfold giveAll
 cases give l t with
 | none => rfl
 | some m => rfl
theorem give_ways {l m : List Nd} {t : Tu} (h : give l t = some m) : ∃ hk : place l t.dir < l.length, l[place l t.dir].path = t.dir ∧ l[place l t.dir].turn = 0 ∧ m = l.set (place l t.dir) { l[place l t.dir] with turn := t.next } := by
 unfold give at h
 split at h
 ·rename_i hk
  split at h
  ·rename_i k
   exact ⟨hk, k.1, k.2, (Option.some.inj h).symm⟩
  cases h
 cases h
theorem give_kn {l m : List Nd} {t : Tu} (h : give l t = some m) : m.map kn = l.map kn := by
 obtain ⟨hk, _, _, rfl⟩ := give_ways h
 rw [kn_set]
 exact set_same (by simpa using hk) (by rw [List.getElem_map]; rfl)
theorem giveAll_kn {ts : List Tu} {l m : List Nd} (h : giveAll l ts = some m) : m.map kn = l.map kn := by
 induction ts generalizing l with
 | nil => rw [Option.some.inj h]
 | cons t ts ih =>
  unfold giveAll at h
  cases hg : give l t with
  | none => rw [hg] at h; cases h
  | some x => rw [hg] at h; rw [ih h, give_kn hg]
theorem give_turns {l m : List Nd} {t : Tu} (ha : Asc l) (h : give l t = some m) (h0 : t.next ≠ 0) : (∀ s, s ∈ turnsOf m ↔ s = t ∨ s ∈ turnsOf l) ∧ ∀ s ∈ turnsOf l, s.dir ≠ t.dir := by
 obtain ⟨hk, h1, h2, rfl⟩ := give_ways h
 have hx : find l t.dir = some l[place l t.dir] := by rw [find_place ha, dif_pos hk, if_pos h1]
 have hno : ∀ s ∈ turnsOf l, s.dir ≠ t.dir := fun s hs e => by
  obtain ⟨n, k1, k2, k3, k4⟩ := mem_turnsOf.1 hs
  have := find_of ha k1
  rw [k2, e, hx] at this
  rw [← Option.some.inj this] at k4
  exact k4 h2
 refine ⟨fun s => ?_, hno⟩
 rw [← setT_turnsOf ha hx, mem_setT ha.turnsOf]
 constructor
 ·rintro (⟨_, k⟩ | ⟨_, k⟩)
  ·exact .inr k
  exact .inl k
 rintro (k | k)
 ·exact .inr ⟨h0, k⟩
 exact .inl ⟨hno s k, k⟩
theorem giveAll_turns {ts : List Tu} {l m : List Nd} (ha : Asc l) (h : giveAll l ts = some m) (h0 : ∀ t ∈ ts, t.next ≠ 0) : (∀ s, s ∈ turnsOf m ↔ s ∈ ts ∨ s ∈ turnsOf l) ∧ (ts.map Tu.dir).Nodup ∧ ∀ s ∈ turnsOf l, ∀ t ∈ ts, s.dir ≠ t.dir := by
 induction ts generalizing l with
 | nil => rw [Option.some.inj h]; exact ⟨fun s => by simp, List.nodup_nil, fun s _ t ht => by simp at ht⟩
 | cons t ts ih =>
  unfold giveAll at h
  cases hg : give l t with
  | none => rw [hg] at h; cases h
  | some x => ?_
  rw [hg] at h
  obtain ⟨g1, g2⟩ := give_turns ha hg (h0 t (List.mem_cons_self ..))
  obtain ⟨i1, i2, i3⟩ := ih (ha.of_kn (give_kn hg)) h (fun t ht => h0 t (List.mem_cons_of_mem _ ht))
  refine ⟨fun s => ?_, ?_, fun s hs t' ht' => ?_⟩
  ·rw [i1, g1, List.mem_cons]
   constructor
   ·rintro (k | k | k)
    ·exact .inl (.inr k)
    ·exact .inl (.inl k)
    exact .inr k
   rintro ((k | k) | k)
   ·exact .inr (.inl k)
   ·exact .inl k
   exact .inr (.inr k)
  ·rw [List.map_cons, List.nodup_cons]
   refine ⟨fun k => ?_, i2⟩
   obtain ⟨t', ht', e⟩ := List.mem_map.1 k
   exact i3 t ((g1 t).2 (.inl rfl)) t' ht' e.symm
  rcases List.mem_cons.1 ht' with rfl | ht'
  ·exact g2 s hs
  exact i3 s ((g1 s).2 (.inr hs)) t' ht'
theorem giveAll_some {ts : List Tu} {l : List Nd} (ha : Asc l) (h0 : ∀ t ∈ ts, t.next ≠ 0) (hn : (ts.map Tu.dir).Nodup) (hf : ∀ t ∈ ts, ∃ x, find l t.dir = some x ∧ x.turn = 0) : ∃ m, giveAll l ts = some m := by
 induction ts generalizing l with
 | nil => exact ⟨l, rfl⟩
 | cons t ts ih =>
  obtain ⟨x, hx, hx0⟩ := hf t (List.mem_cons_self ..)
  obtain ⟨hk, e⟩ := find_at ha hx
  have hg : give l t = some (l.set (place l t.dir) { l[place l t.dir] with turn := t.next }) := by
   unfold give
   rw [dif_pos hk, if_pos ⟨by rw [e]; exact (find_mem hx).2, by rw [e]; exact hx0⟩]
  unfold giveAll
  rw [hg]
  rw [List.map_cons, List.nodup_cons] at hn
  refine ih (ha.of_kn (give_kn hg)) (fun t ht => h0 t (List.mem_cons_of_mem _ ht)) hn.2 (fun t' ht' => ?_)
  obtain ⟨y, hy, hy0⟩ := hf t' (List.mem_cons_of_mem _ ht')
  refine ⟨y, ?_, hy0⟩
  rw [find_set ha hk { l[place l t.dir] with turn := t.next } rfl, if_neg (fun k => ?_)]
  ·exact hy
  refine hn.1 (List.mem_map.2 ⟨t', ht', ?_⟩)
  rw [k]
  show l[place l t.dir].path = t.dir
  rw [e]; exact (find_mem hx).2
structure TreeOf (ss : List St) (y : List Nd) : Prop where
 right : ∀ s ∈ ss, StR s
 tree : Tr y
 uniq : ((ss.flatMap St.nodes).map Nd.path).Nodup
 mem : ∀ n, n ∈ y.map kn ↔ n ∈ ss.flatMap St.nodes
 uniqT : ((ss.flatMap St.turns).map Tu.dir).Nodup
 memT : ∀ t, t ∈ turnsOf y ↔ t ∈ ss.flatMap St.turns
theorem nd_ext {y z : List Nd} (hy : Asc y) (hz : Asc z) (h1 : y.map kn = z.map kn) (h2 : ∀ t, t ∈ turnsOf y → t ∈ turnsOf z) : ∀ n ∈ y, n.turn ≠ 0 → n ∈ z := by
 intro n hn h0
 have h3 := h2 ⟨n.path, n.turn⟩ (mem_turnsOf.2 ⟨n, hn, rfl, rfl, h0⟩)
 obtain ⟨m, k1, k2, k3, _⟩ := mem_turnsOf.1 h3
 simp only at k2 k3
 have h4 : kn n ∈ z.map kn := by rw [← h1]; exact List.mem_map.2 ⟨n, hn, rfl⟩
 obtain ⟨m', j1, j2⟩ := List.mem_map.1 h4
 have e : m'.path = n.path := by have h5 := congrArg Nd.path j2; exact h5
 have hm := find_of hz k1
 have hm' := find_of hz j1
 rw [k2] at hm
 rw [e, hm] at hm'
 have hmm := Option.some.inj hm'
 subst hmm
 have : m = n := by
  obtain ⟨a, b, c, d, f⟩ := m
  obtain ⟨a', b', c', d', f'⟩ := n
  unfold kn at j2
  injection j2 with e1 e2 e3 e4 e5
  simp only at e1 e2 e3 e5 k3
  subst e1 e2 e3 e5 k3
  rfl
 rw [← this]; exact k1
theorem tree_one {y z : List Nd} (hy : Asc y) (hz : Asc z) (h1 : y.map kn = z.map kn) (h2 : ∀ t, t ∈ turnsOf y ↔ t ∈ turnsOf z) : y = z := by
 have half : ∀ {a b : List Nd}, Asc a → Asc b → a.map kn = b.map kn → (∀ t, t ∈ turnsOf a ↔ t ∈ turnsOf b) → ∀ n ∈ a, n ∈ b := by
  intro a b ha hb e ht n hn
  by_cases h0 : n.turn = 0
  ·have h4 : kn n ∈ b.map kn := by rw [← e]; exact List.mem_map.2 ⟨n, hn, rfl⟩
   obtain ⟨m, j1, j2⟩ := List.mem_map.1 h4
   by_cases hm0 : m.turn = 0
   ·have : m = n := by
     obtain ⟨a, b, c, d, f⟩ := m
     obtain ⟨a', b', c', d', f'⟩ := n
     unfold kn at j2
     injection j2 with e1 e2 e3 e4 e5
     simp only at e1 e2 e3 e5 h0 hm0
     subst e1 e2 e3 e5 h0 hm0
     rfl
    rw [← this]; exact j1
   have hma := nd_ext hb ha e.symm (fun t k => (ht t).2 k) m j1 hm0
   have ep : m.path = n.path := by have h5 := congrArg Nd.path j2; exact h5
   have f1 := find_of ha hma
   have f2 := find_of ha hn
   rw [ep, f2] at f1
   rw [← Option.some.inj f1] at hm0
   exact absurd h0 hm0
  exact nd_ext ha hb e (fun t k => (ht t).1 k) n hn h0
 exact asc_ext hy hz (fun n => ⟨half hy hz h1 h2 n, half hz hy h1.symm (fun t => (h2 t).symm) n⟩)
theorem TreeOf.one {ss : List St} {y z : List Nd} (h : TreeOf ss y) (g : TreeOf ss z) : y = z := by
 refine tree_one h.tree.asc g.tree.asc ?_ (fun t => by rw [h.memT, g.memT])
 exact asc_ext h.tree.asc.kn g.tree.asc.kn (fun n => by rw [h.mem, g.mem])
theorem StR.next {s : St} (h : StR s) {t : Tu} (ht : t ∈ s.turns) : t.next ≠ 0 := by
 have := h.tfit t ht
 unfold Pm.tfit at this
 simp only [Bool.and_eq_true, decide_eq_true_eq] at this
 omega
theorem StR.turn0 {s : St} (h : StR s) {n : Nd} (hn : n ∈ s.nodes) : n.turn = 0 := ((sfit_iff n).1 (h.fit n hn)).2.2.1
theorem kn_self {n : Nd} (h : n.turn = 0) : kn n = n := by obtain ⟨_, _, _, _, _⟩ := n; cases h; rfl
theorem map_kn_self {l : List Nd} (h : ∀ n ∈ l, n.turn = 0) : l.map kn = l := by
 conv => rhs; rw [← List.map_id l]
 exact List.map_congr_left (fun n hn => kn_self (h n hn))
theorem turnsOf_none {l : List Nd} (h : ∀ n ∈ l, n.turn = 0) : turnsOf l = [] := by
 unfold turnsOf
 rw [List.map_eq_nil_iff, List.filter_eq_nil_iff]
 intro n hn; simp [h n hn]
theorem tree_of {ss : List St} {A m : List Nd} (hr : ∀ s ∈ ss, StR s) (hp : A.Perm (ss.flatMap St.nodes)) (hw : AscW A) (hg : giveAll A (ss.flatMap St.turns) = some m) (ht : Tr m) : TreeOf ss m := by
 have hA0 : ∀ n ∈ A, n.turn = 0 := fun n hn => by
  obtain ⟨s, hs, hn⟩ := List.mem_flatMap.1 (hp.mem_iff.1 hn); exact (hr s hs).turn0 hn
 have hk := giveAll_kn hg
 have hAA : Asc A := ht.asc.of_kn hk.symm
 obtain ⟨g1, g2, _⟩ := giveAll_turns hAA hg (fun t ht => by obtain ⟨s, hs, hn⟩ := List.mem_flatMap.1 ht; exact (hr s hs).next hn)
 refine ⟨hr, ht, (hp.map Nd.path).nodup_iff.1 hAA.nodup, fun n => ?_, g2, fun t => ?_⟩
 ·rw [hk, map_kn_self hA0]; exact hp.mem_iff
 rw [g1, turnsOf_none hA0]; simp
theorem tree_made {ss : List St} {A y : List Nd} (h : TreeOf ss y) (hp : A.Perm (ss.flatMap St.nodes)) (hw : AscW A) : giveAll A (ss.flatMap St.turns) = some y := by
 have hA0 : ∀ n ∈ A, n.turn = 0 := fun n hn => by
  obtain ⟨s, hs, hn⟩ := List.mem_flatMap.1 (hp.mem_iff.1 hn); exact (h.right s hs).turn0 hn
 have hAA : Asc A := hw.strict ((hp.map Nd.path).nodup_iff.2 h.uniq)
 have hAy : A = y.map kn := asc_ext hAA h.tree.asc.kn (fun n => by rw [h.mem, hp.mem_iff])
 have hnx : ∀ t ∈ ss.flatMap St.turns, t.next ≠ 0 := fun t ht => by obtain ⟨s, hs, hn⟩ := List.mem_flatMap.1 ht; exact (h.right s hs).next hn
 obtain ⟨m, hm⟩ := giveAll_some hAA hnx h.uniqT (fun t ht => by
  obtain ⟨n, k1, k2, k3, k4⟩ := mem_turnsOf.1 ((h.memT t).2 ht)
  refine ⟨kn n, ?_, rfl⟩
  rw [hAy, find_kn, ← k2, find_of h.tree.asc k1]; rfl)
 rw [hm]
 obtain ⟨g1, g2, _⟩ := giveAll_turns hAA hm hnx
 have hk := giveAll_kn hm
 rw [map_kn_self hA0, hAy] at hk
 have : m = y := tree_one (h.tree.asc.of_kn hk) h.tree.asc hk (fun t => by rw [g1, turnsOf_none hA0, h.memT]; simp)
 rw [this]
theorem tree_keep {l : List Nd} (h : Tr l) : TreeOf [keep l] l := by
 have hS := h.store
 refine ⟨fun s hs => by rw [List.mem_singleton.1 hs]; exact hS, h, ?_, fun n => ?_, ?_, fun t => ?_⟩
 ·rw [List.flatMap_singleton]; exact hS.asc.nodup
 ·rw [List.flatMap_singleton]; rfl
 ·rw [List.flatMap_singleton]; exact hS.tasc.nodup
 rw [List.flatMap_singleton]; rfl
end Pm
open Pm
structure StW (s : St) : Prop where
 fit : ∀ n ∈ s.nodes, nfit n = true
 asc : Asc s.nodes
 tfit : ∀ t ∈ s.turns, tfit t = true
 tasc : AscT s.turns
theorem stW_of {s : St} (h : StR s) : StW s := ⟨fun n hn => nfit_of (h.fit n hn), h.asc, h.tfit, h.tasc⟩
theorem nfit_iff (n : Nd) : nfit n = true ↔ (split n.path).isSome = true ∧ n.data.length ≤ 256 ∧ 0 ≤ n.ver ∧ n.ver ≤ 281474976710656 ∧ 0 ≤ n.own ∧ n.own ≤ 1099511627776 ∧ n.turn = 0 := by
 unfold nfit; rw [Bool.and_eq_true, decide_eq_true_eq]
theorem StW.turn0 {s : St} (h : StW s) {n : Nd} (hn : n ∈ s.nodes) : n.turn = 0 := ((nfit_iff n).1 (h.fit n hn)).2.2.2.2.2.2
theorem StW.next {s : St} (h : StW s) {t : Tu} (ht : t ∈ s.turns) : t.next ≠ 0 := by
 have := h.tfit t ht
 unfold Pm.tfit at this
 simp only [Bool.and_eq_true, decide_eq_true_eq] at this
 omega
def hits (T : List Tu) (p : Bs) : List Tu := T.filter (fun t => t.dir == p)
def trn (T : List Tu) (p : Bs) : Int := ((hits T p).head?.map Tu.next).getD 0
def turned (T : List Tu) (x : Nd) : Nd := { x with turn := trn T x.path }
def took (T : List Tu) (P : List Nd) : Nat := T.countP (fun t => decide (t.dir ∈ P.map Nd.path))
theorem turned_kn (T : List Tu) {x : Nd} (h : x.turn = 0) : kn (turned T x) = x := by
 obtain ⟨_, _, _, _, _⟩ := x; simp only at h; subst h; rfl
theorem hits_snoc (Q : List Tu) (t : Tu) (p : Bs) : hits (Q ++ [t]) p = hits Q p ++ if t.dir = p then [t] else [] := by
 unfold hits; rw [List.filter_append]
 by_cases h : t.dir = p <;> simp [h]
theorem hits_mem {T : List Tu} {p : Bs} {t : Tu} : t ∈ hits T p ↔ t ∈ T ∧ t.dir = p := by unfold hits; rw [List.mem_filter]; simp
structure Cn (Q : List Tu) (p : Bs) (c : Int) (k : Nat) : Prop where
 one : k ≤ 1
 len : (hits Q p).length = k
 trn : c = trn Q p
theorem Cn.nil (p : Bs) : Cn [] p 0 0 := ⟨by omega, rfl, rfl⟩
theorem Cn.other {Q : List Tu} {p : Bs} {c : Int} {k : Nat} (h : Cn Q p c k) {t : Tu} (ht : t.dir ≠ p) : Cn (Q ++ [t]) p c k := by
 have e : hits (Q ++ [t]) p = hits Q p := by rw [hits_snoc, if_neg ht, List.append_nil]
 refine ⟨h.one, by rw [e]; exact h.len, ?_⟩
 unfold Go.Proofs.YtphoglepiegeiaaGreatDoor.trn; rw [e]; exact h.trn
theorem Cn.first {Q : List Tu} {p : Bs} {k : Nat} (h : Cn Q p 0 k) (hq : ∀ t ∈ Q, t.next ≠ 0) {t : Tu} (ht : t.dir = p) : k = 0 ∧ Cn (Q ++ [t]) p t.next 1 := by
 have e : hits Q p = [] := by
  cases he : hits Q p with
  | nil => rfl
  | cons a l => ?_
  have h1 := h.trn
  unfold Go.Proofs.YtphoglepiegeiaaGreatDoor.trn at h1
  rw [he] at h1
  have h2 : a ∈ hits Q p := by rw [he]; exact List.mem_cons_self ..
  have h3 := hq a (hits_mem.1 h2).1
  exact absurd h1.symm h3
 have e2 : hits (Q ++ [t]) p = [t] := by rw [hits_snoc, e, if_pos ht]; rfl
 refine ⟨?_, Nat.le_refl 1, by rw [e2]; rfl, ?_⟩
 ·have := h.len; rw [e] at this; exact this.symm
 unfold Go.Proofs.YtphoglepiegeiaaGreatDoor.trn; rw [e2]; rfl
theorem Cn.second {Q R : List Tu} {p : Bs} {c : Int} {k : Nat} (h : Cn Q p c k) (hc : c ≠ 0) {t : Tu} (ht : t.dir = p) : ¬ ((Q ++ t :: R).map Tu.dir).Nodup := by
 intro hn
 have e : hits Q p ≠ [] := fun e => hc (by rw [h.trn]; unfold Go.Proofs.YtphoglepiegeiaaGreatDoor.trn; rw [e]; rfl)
 obtain ⟨a, ha⟩ := List.exists_mem_of_ne_nil _ e
 obtain ⟨h1, h2⟩ := hits_mem.1 ha
 rw [List.map_append, List.map_cons, List.nodup_append] at hn
 exact hn.2.2 a.dir (List.mem_map.2 ⟨a, h1, rfl⟩) t.dir (List.mem_cons_self ..) (by rw [h2, ht])
theorem took_nil (T : List Tu) : took T [] = 0 := by unfold took; simp
theorem took_snoc (T : List Tu) (P : List Nd) (x : Nd) (h : x.path ∉ P.map Nd.path) : took T (P ++ [x]) = took T P + (hits T x.path).length := by
 unfold took hits
 induction T with
 | nil => rfl
 | cons t T ih =>
  rw [List.countP_cons, List.countP_cons, ih, List.filter_cons]
  by_cases e : t.dir = x.path
  ·have h1 : t.dir ∉ P.map Nd.path := by rw [e]; exact h
   simp [e, h]
   omega
  have : (t.dir ∈ (P ++ [x]).map Nd.path) ↔ t.dir ∈ P.map Nd.path := by simp [e]
  simp only [this, beq_eq_false_iff_ne.2 e]
  simp
  omega
theorem took_all {T : List Tu} {P : List Nd} : took T P = T.length ↔ ∀ t ∈ T, ∃ x ∈ P, x.path = t.dir := by
 unfold took
 rw [List.countP_eq_length]
 simp
theorem took_le (T : List Tu) (P : List Nd) : took T P ≤ T.length := List.countP_le_length
structure Gat (T : List Tu) (P A : List Nd) : Prop where
 asc : Asc A
 mem : ∀ y, y ∈ A ↔ ∃ x ∈ P, y = turned T x
 one : ∀ x ∈ P, (hits T x.path).length ≤ 1
 uniq : (P.map Nd.path).Nodup
 len : A.length = P.length
theorem Gat.nil (T : List Tu) : Gat T [] [] := ⟨fun i j hi => by simp at hi, fun y => by simp, fun x hx => by simp at hx, List.nodup_nil, rfl⟩
theorem Gat.none {T : List Tu} {P A : List Nd} (h : Gat T P A) {p : Bs} (hf : find A p = none) : p ∉ P.map Nd.path := by
 intro hp
 obtain ⟨x, hx, e⟩ := List.mem_map.1 hp
 exact find_none.1 hf (turned T x) ((h.mem _).2 ⟨x, hx, rfl⟩) e
theorem Gat.some {T : List Tu} {P A : List Nd} (h : Gat T P A) {p : Bs} {y : Nd} (hf : find A p = some y) : p ∈ P.map Nd.path := by
 obtain ⟨h1, h2⟩ := find_mem hf
 obtain ⟨x, hx, rfl⟩ := (h.mem y).1 h1
 exact List.mem_map.2 ⟨x, hx, h2⟩
theorem Gat.snoc {T : List Tu} {P A : List Nd} (h : Gat T P A) {x : Nd} (hf : find A x.path = Option.none) (ho : (hits T x.path).length ≤ 1) : Gat T (P ++ [x]) (put A (turned T x)) := by
 have hn := h.none hf
 have hf' : find A (turned T x).path = Option.none := hf
 rw [put_ins h.asc _ hf']
 refine ⟨h.asc.ins _ hf', fun y => ?_, fun z hz => ?_, ?_, ?_⟩
 ·rw [mem_ins, h.mem]
  constructor
  ·rintro (rfl | ⟨z, hz, rfl⟩)
   ·exact ⟨x, List.mem_append.2 (.inr (List.mem_singleton.2 rfl)), rfl⟩
   exact ⟨z, List.mem_append.2 (.inl hz), rfl⟩
  rintro ⟨z, hz, rfl⟩
  rcases List.mem_append.1 hz with hz | hz
  ·exact .inr ⟨z, hz, rfl⟩
  rw [List.mem_singleton.1 hz]; exact .inl rfl
 ·rcases List.mem_append.1 hz with hz | hz
  ·exact h.one z hz
  rw [List.mem_singleton.1 hz]; exact ho
 ·rw [List.map_append, List.nodup_append]
  refine ⟨h.uniq, by simp, fun a ha b hb e => ?_⟩
  rw [List.map_singleton, List.mem_singleton] at hb
  subst hb; subst e
  exact hn ha
 rw [ins_length, h.len, List.length_append]; rfl
theorem hits_one {T : List Tu} {t : Tu} (ht : t ∈ T) (h : (hits T t.dir).length ≤ 1) : hits T t.dir = [t] := by
 have hm : t ∈ hits T t.dir := hits_mem.2 ⟨ht, rfl⟩
 cases e : hits T t.dir with
 | nil => rw [e] at hm; cases hm
 | cons a l => ?_
 rw [e] at h hm
 cases l with
 | nil => rw [List.mem_singleton.1 hm]
 | cons b l => simp at h
theorem nodup_hits : ∀ {T : List Tu}, (∀ t ∈ T, (hits T t.dir).length ≤ 1) → (T.map Tu.dir).Nodup
 | [], _ => List.nodup_nil
 | a :: T, h => by
  rw [List.map_cons, List.nodup_cons]
  refine ⟨fun hm => ?_, nodup_hits fun t ht => ?_⟩
  ·obtain ⟨t, ht, e⟩ := List.mem_map.1 hm
   have h1 := h a (List.mem_cons_self ..)
   unfold hits at h1
   rw [List.filter_cons, if_pos (by simp)] at h1
   have h2 : t ∈ T.filter (fun u => u.dir == a.dir) := List.mem_filter.2 ⟨ht, by simp [e]⟩
   have h3 := List.length_pos_of_mem h2
   rw [List.length_cons] at h1
   omega
  have h1 := h t (List.mem_cons_of_mem _ ht)
  refine Nat.le_trans ?_ h1
  unfold hits
  rw [List.filter_cons]
  split
  ·rw [List.length_cons]; omega
  exact Nat.le_refl _
theorem trn_some {T : List Tu} {p : Bs} (h : trn T p ≠ 0) : ⟨p, trn T p⟩ ∈ T := by
 unfold trn at h ⊢
 cases e : hits T p with
 | nil => rw [e] at h; exact absurd rfl h
 | cons a l => ?_
 have hm : a ∈ hits T p := by rw [e]; exact List.mem_cons_self ..
 obtain ⟨h1, h2⟩ := hits_mem.1 hm
 obtain ⟨d, n⟩ := a
 simp only at h2
 subst h2
 exact h1
theorem flat_weak {ss : List St} (hw : ∀ s ∈ ss, StW s) : (∀ x ∈ ss.flatMap St.nodes, x.turn = 0) ∧ ∀ t ∈ ss.flatMap St.turns, t.next ≠ 0 :=
 ⟨fun x hx => by obtain ⟨s, hs, h⟩ := List.mem_flatMap.1 hx; exact (hw s hs).turn0 h, fun t ht => by obtain ⟨s, hs, h⟩ := List.mem_flatMap.1 ht; exact (hw s hs).next h⟩
theorem Gat.kn_mem {T : List Tu} {P A : List Nd} (h : Gat T P A) (h0 : ∀ x ∈ P, x.turn = 0) (n : Nd) : n ∈ A.map kn ↔ n ∈ P := by
 rw [List.mem_map]
 constructor
 ·rintro ⟨y, hy, rfl⟩
  obtain ⟨x, hx, rfl⟩ := (h.mem y).1 hy
  rw [turned_kn T (h0 x hx)]; exact hx
 intro hn
 exact ⟨turned T n, (h.mem _).2 ⟨n, hn, rfl⟩, turned_kn T (h0 n hn)⟩
theorem Gat.turns {T : List Tu} {P A : List Nd} (h : Gat T P A) (hT : ∀ t ∈ T, t.next ≠ 0) (ha : ∀ t ∈ T, ∃ x ∈ P, x.path = t.dir) (t : Tu) : t ∈ turnsOf A ↔ t ∈ T := by
 rw [mem_turnsOf]
 constructor
 ·rintro ⟨n, h1, h2, h3, h4⟩
  obtain ⟨x, hx, rfl⟩ := (h.mem n).1 h1
  have h5 := trn_some (T := T) (p := x.path) h4
  obtain ⟨d, k⟩ := t
  simp only at h2 h3
  subst h2 h3
  exact h5
 intro ht
 obtain ⟨x, hx, e⟩ := ha t ht
 have h1 : hits T x.path = [t] := by rw [e]; exact hits_one ht (by rw [← e]; exact h.one x hx)
 have h2 : trn T x.path = t.next := by unfold trn; rw [h1]; rfl
 exact ⟨turned T x, (h.mem _).2 ⟨x, hx, rfl⟩, e, h2, by rw [show (turned T x).turn = trn T x.path from rfl, h2]; exact hT t ht⟩
theorem Pm.Tr.root_own {l : List Nd} (h : Tr l) {n : Nd} (hn : n ∈ l) (e : n.path = [47]) : n.own = 0 := by
 obtain ⟨r, hr, h0⟩ := h.root
 have := find_of h.asc hn
 rw [e, hr] at this
 rw [← Option.some.inj this]; exact h0
theorem tree_gat {ss : List St} {A : List Nd} (hw : ∀ s ∈ ss, StW s) (h : Gat (ss.flatMap St.turns) (ss.flatMap St.nodes) A) (hk : took (ss.flatMap St.turns) (ss.flatMap St.nodes) = (ss.flatMap St.turns).length) (ht : Tr A) : TreeOf ss A := by
 obtain ⟨h0, hT⟩ := flat_weak hw
 have ha := took_all.1 hk
 refine ⟨fun s hs => ⟨fun n hn => ?_, (hw s hs).asc, (hw s hs).tfit, (hw s hs).tasc⟩, ht, h.uniq, h.kn_mem h0, nodup_hits fun t ht' => ?_, h.turns hT ha⟩
 ·obtain ⟨a1, a2, a3, a4, a5, a6, a7⟩ := (nfit_iff n).1 ((hw s hs).fit n hn)
  refine (sfit_iff n).2 ⟨a1, a2, a7, ?_, a3, a4, a5, a6⟩
  rintro ⟨e, ho⟩
  have hm : turned (ss.flatMap St.turns) n ∈ A := (h.mem _).2 ⟨n, List.mem_flatMap.2 ⟨s, hs, hn⟩, rfl⟩
  exact ho (ht.root_own (n := turned (ss.flatMap St.turns) n) hm e)
 obtain ⟨x, hx, e⟩ := ha t ht'
 rw [← e]; exact h.one x hx
theorem gat_tree {ss : List St} {A y : List Nd} (h : Gat (ss.flatMap St.turns) (ss.flatMap St.nodes) A) (ht : TreeOf ss y) : took (ss.flatMap St.turns) (ss.flatMap St.nodes) = (ss.flatMap St.turns).length ∧ A = y := by
 obtain ⟨h0, hT⟩ := flat_weak (fun s hs => stW_of (ht.right s hs))
 have ha : ∀ t ∈ ss.flatMap St.turns, ∃ x ∈ ss.flatMap St.nodes, x.path = t.dir := fun t hx => by
  obtain ⟨n, k1, k2, k3, k4⟩ := mem_turnsOf.1 ((ht.memT t).2 hx)
  exact ⟨kn n, (ht.mem _).1 (List.mem_map.2 ⟨n, k1, rfl⟩), k2⟩
 refine ⟨took_all.2 ha, tree_one h.asc ht.tree.asc ?_ fun t => ?_⟩
 ·exact asc_ext h.asc.kn ht.tree.asc.kn fun n => by rw [h.kn_mem h0, ht.mem]
 rw [h.turns hT ha, ht.memT]
theorem dup_tree {ss : List St} {P R : List Nd} {x : Nd} (he : ss.flatMap St.nodes = P ++ x :: R) (hx : x.path ∈ P.map Nd.path) (y : List Nd) : ¬ TreeOf ss y := by
 intro h
 have := h.uniq
 rw [he, List.map_append, List.map_cons, List.nodup_append] at this
 exact this.2.2 x.path hx x.path (List.mem_cons_self ..) rfl
open Go.RowKit Pm
set_option maxHeartbeats 1000000 in
theorem lies1_c (n : Nd) (g : Nat) (p : Bs) (w : World) (hn : n.path.length ≤ 1000000) (hg : w.cell? ⟨g, 0, none⟩ = some (.string (B p))) :
  Calls Tryz.prog 169 #[ndV n, .pointer (some ⟨g, 0, none⟩)] w fun e w' => e = .returned (.bool (parent n.path == some p)) ∧ Fp Non w w' := by
 obtain ⟨np, d, v, t, o⟩ := n
 unfold ndV strV
 have hf : ∀ o, Fp Non w (w.alloc o) := fun o => (Fp.refl Non w).alloc o
 have hpar := fun w => Parent_g np w (sz_of hn (by omega))
 have HF := Lib.hid hf
 have HG := Lib.hid hg
 show Calls _ _ _ _ (fun e w' => e = .returned (.bool (parent np == some p)) ∧ _)
 cases hu : parent np with
 | none =>
  rw [hu] at hpar
  have HP := Lib.hid hpar
  clear hpar hu hf hg hn
  go_enter Tryz.func169, Tryz.ntmps169
  go_wp2_with fail
  refine (HP.out _).mono ?_
  rintro e w1 ⟨rfl, g1⟩
  have F := Lib.hid ((HF.out _).then g1.fp)
  clear g1
  go_wp2
  go_ret
  exact ⟨rfl, F.out⟩
 | some u => ?_
 rw [hu] at hpar
 have HP := Lib.hid hpar
 have hb : (some u == some p) = (u == p) := rfl
 rw [hb]
 clear hpar hu hf hg hn hb
 go_enter Tryz.func169, Tryz.ntmps169
 go_wp2_with fail
 refine (HP.out _).mono ?_
 rintro e w1 ⟨rfl, g1⟩
 have f1 := (HF.out _).then g1.fp
 have c1 := f1.cell HG.out id
 have F := Lib.hid f1
 clear g1 f1
 go_wp2
 all_goals (go_ret; exact ⟨rfl, F.out⟩)
theorem lies_pd (w : World) (g : Nat) (p : Bs) (hg : w.cell? ⟨g, 0, none⟩ = some (.string (B p))) (S : Nat → Prop) (hS : ¬ S g) :
  Pd S w (.func (.func 169) #[] #[.pointer (some ⟨g, 0, none⟩)]) (fun n => parent n.path == some p) :=
 ⟨_, _, _, rfl, enters_of Tryz.func169 (by kernel_rfl) rfl, fun n w1 hn hf => lies1_c n g p w1 hn (hf.cell hg hS)⟩
set_option maxHeartbeats 1000000 in
theorem liesIn_c (p : Bs) (w : World) :
  Calls Tryz.prog 132 #[.string (B p)] w fun e w' => e = .returned (.func (.func 169) #[] #[.pointer (some ⟨w.heap.size, 0, none⟩)]) ∧ w' = w.alloc (.cells #[.string (B p)] 9) := by
 go_enter Tryz.func132, Tryz.ntmps132
 go_wp2
 go_ret
 exact ⟨rfl, rfl⟩
theorem liesIn_pd (p : Bs) (w : World) (S : Nat → Prop) (hS : ∀ k, S k → k < w.heap.size) : Pd S (w.alloc (.cells #[.string (B p)] 9)) (.func (.func 169) #[] #[.pointer (some ⟨w.heap.size, 0, none⟩)]) (fun n => parent n.path == some p) :=
 lies_pd _ _ p (by rw [cell_of_row _ _ _ _ _ _ (heap_alloc_new w _)]; rfl) S (fun h => by have := hS _ h; omega)
set_option maxHeartbeats 1000000 in
theorem placeP1_c (n : Nd) (p : Bs) (w : World) :
  Calls Tryz.prog 151 #[ndV n, .string (B p)] w fun e w' => e = .returned (.int .i64 (cmpI n.path p)) ∧ Fp Non w w' := by
 obtain ⟨np, d, v, t, o⟩ := n
 unfold ndV strV
 have hf : ∀ o, Fp Non w (w.alloc o) := fun o => (Fp.refl Non w).alloc o
 have hc := fun w => Tryz.strings_Compare (B np) (B p) w
 have e : ∀ l : Bs, (B l).data.toList = l := fun l => by unfold B; rfl
 simp only [e, cmp_eq] at hc
 have HF := Lib.hid hf
 have HC := Lib.hid hc
 clear hf hc e
 go_enter Tryz.func151, Tryz.ntmps151
 go_wp2_with fail
 refine (HC.out _).mono ?_
 rintro e w1 ⟨rfl, rfl⟩
 go_wp2
 go_ret
 exact ⟨rfl, HF.out _⟩
set_option maxHeartbeats 2000000 in
theorem SearchP_c (v : Value) (l : List Nd) (p : Bs) (w : World) (hv : Ns w v l) (ha : Asc l) (hn : l.length ≤ 1000000) :
  Calls Tryz.prog 150 #[v, .string (B p), .func (.func 151) #[] #[]] w fun e w' => e = .returned (.tuple #[.int .i64 (place l p), .bool (find l p).isSome]) ∧ Fp Non w w' := by
 obtain ⟨ao, cap, rfl⟩ := hv.shape
 obtain ⟨n, hnn⟩ : ∃ n, n = l.length := ⟨_, rfl⟩
 have HX := Lib.hid (And.intro hnn (And.intro hv ha))
 have H0 : Hid (BsM l p w 0 n w) := ⟨Fp.refl _ _, fun x _ h => absurd h (Nat.not_lt_zero x), fun x h1 h2 => by omega, Nat.zero_le _, by omega⟩
 rw [← hnn]
 have hnb : n ≤ 1000000 := by omega
 clear hv ha hn hnn
 go_enter Tryz.func150, Tryz.ntmps150
 go_wp2_with fail
 go_loopw [9, 10] (fun i j wr => ∃ a b : Nat, a ≤ n ∧ b ≤ n ∧ i = .int .i64 a ∧ j = .int .i64 b ∧ Hid (BsM l p w a b wr)) (fun i j _ => (RowKit.intOf j).toNat - (RowKit.intOf i).toNat)
 case atStart => exact ⟨0, n, Nat.zero_le _, Nat.le_refl _, rfl, rfl, H0⟩
 obtain ⟨a, b, han, hbn, rfl, rfl, hR⟩ := hrel
 rename_i wr _
 by_cases hlt : a < b
 ·obtain ⟨h, hh⟩ : ∃ h, h = (a + b) / 2 := ⟨_, rfl⟩
  have hab : a ≤ h ∧ h < b := by omega
  have he : ((a : Int) + (b : Int)) / 2 = (h : Int) := by omega
  have hhl : h < l.length := by rw [← HX.out.1]; omega
  have q5 : (h < n) = True := eq_true (by omega)
  have q6 : ((h : Int) < (n : Int)) = True := eq_true (by omega)
  obtain ⟨g, o, cap', e, _, _, _, hcell⟩ := HX.out.2.1.at (by omega)
  injection e with e1 e2 e3
  subst e1 e3
  have hnd := (hcell h hhl).keep hR.out.fp id
  have hdn : lt l[h].path p = true → ∀ x (hx : x < l.length), x < h + 1 → lt l[x].path p = true := fun k x hx hxh => by
   rcases Nat.lt_or_eq_of_le (show x ≤ h by omega) with e | e
   ·exact lt_trans (HX.out.2.2 x h hx hhl e) k
   subst e; exact k
  have hup : lt l[h].path p = false → ∀ x (hx : x < l.length), h ≤ x → lt l[x].path p = false := fun k x hx hxh => by
   rcases Nat.lt_or_eq_of_le hxh with e | e
   ·cases c : lt l[x].path p with
    | false => rfl
    | true => rw [lt_trans (HX.out.2.2 h x hhl hx e) c] at k; cases k
   subst e; exact k
  have hpc := fun w => placeP1_c l[h] p w
  have HB := Lib.hid (And.intro hdn hup)
  have HA := Lib.hid (And.intro hab (And.intro han hbn))
  clear hcell hdn hup hh han hbn
  generalize l[h] = y at *
  have c0 := hnd.c0; have c1 := hnd.c1; have c2 := hnd.c2; have c3 := hnd.c3; have c4 := hnd.c4
  unfold strV at c0 c1
  unfold ndV strV at hpc
  have q3 : ((a : Int) < (b : Int)) = True := eq_true (by omega)
  have q4 : (a < b) = True := eq_true hlt
  have hcmp : ∃ z, cmpI y.path p = z := ⟨_, rfl⟩
  obtain ⟨z, hz⟩ := hcmp
  rw [hz] at hpc
  have HPC := Lib.hid hpc
  have hhb : h ≤ 1000000 := by have := HA.out; omega
  clear hnd hpc hhl hlt hab
  by_cases hlo : lt y.path p = true
  ·have z0 : (z < 0) = True := eq_true (by rw [← hz]; unfold cmpI; rw [if_pos hlo]; decide)
   have HLo := Lib.hid hlo
   clear hz hlo
   go_wp2_with fail
   refine (HPC.out _).mono ?_
   rintro e w2 ⟨rfl, hf2⟩
   have hM : Hid (BsM l p w (h + 1) b w2) := ⟨hR.out.fp.then hf2, HB.out.1 HLo.out, hR.out.hi, by have := HA.out.1; omega, hR.out.jn⟩
   clear hf2
   go_wp2
   go_roundw
   case rel => exact ⟨h + 1, b, by have := HA.out; omega, HA.out.2.2, by go_num, rfl, hM⟩
   case measure => have := HA.out; simp [RowKit.intOf]; omega
  have hlo' : lt y.path p = false := by simpa using hlo
  have z0 : (z < 0) = False := eq_false (by rw [← hz]; unfold cmpI; rw [if_neg hlo]; split <;> decide)
  have HLo := Lib.hid hlo'
  clear hz hlo hlo'
  go_wp2_with fail
  refine (HPC.out _).mono ?_
  rintro e w2 ⟨rfl, hf2⟩
  have hM : Hid (BsM l p w a h w2) := ⟨hR.out.fp.then hf2, hR.out.lo, HB.out.2 HLo.out, by have := HA.out.1; omega, by have := HA.out.1; have := hR.out.jn; omega⟩
  clear hf2
  go_wp2
  go_roundw
  case rel => exact ⟨a, h, HA.out.2.1, by have := HA.out; omega, rfl, rfl, hM⟩
  case measure => have := HA.out; simp [RowKit.intOf]; omega
 have hab : a = b := by have := hR.out.ij; omega
 subst hab
 have hpl : place l p = a := place_of hR.out.jn hR.out.lo hR.out.hi
 have q3 : ((a : Int) < (a : Int)) = False := eq_false (by omega)
 have hfp := find_place HX.out.2.2 p
 rw [hpl] at hfp
 have HP := Lib.hid hpl
 by_cases hal : a < n
 ·have hal' : a < l.length := by rw [← HX.out.1]; exact hal
  rw [dif_pos hal'] at hfp
  obtain ⟨g, o, cap', e, _, _, _, hcell⟩ := HX.out.2.1.at (by omega)
  injection e with e1 e2 e3
  subst e1 e3
  have hnd := (hcell a hal').keep hR.out.fp id
  have hpc := fun w => placeP1_c l[a] p w
  have hnl := hR.out.hi a hal' (Nat.le_refl _)
  clear hcell
  generalize l[a] = y at *
  have c0 := hnd.c0; have c1 := hnd.c1; have c2 := hnd.c2; have c3 := hnd.c3; have c4 := hnd.c4
  unfold strV at c0 c1
  unfold ndV strV at hpc
  have q5 : ((a : Int) < (n : Int)) = True := eq_true (by omega)
  have q6 : (a < n) = True := eq_true hal
  obtain ⟨z, hz⟩ : ∃ z, cmpI y.path p = z := ⟨_, rfl⟩
  have hze : (z == 0) = (find l p).isSome := by
   rw [hfp, ← hz]; unfold cmpI
   rw [if_neg (by rw [hnl]; exact Bool.false_ne_true)]
   by_cases e : y.path = p
   ·rw [if_pos e, if_pos e]; rfl
   rw [if_neg e, if_neg e]; rfl
  rw [hz] at hpc
  have HPC := Lib.hid hpc
  have HZ := Lib.hid hze
  clear hnd hpc hz hze hfp hnl hal hal' hpl han hbn
  go_wp2_with fail
  refine (HPC.out _).mono ?_
  rintro e w2 ⟨rfl, hf2⟩
  have HF := Lib.hid (hR.out.fp.then hf2)
  clear hf2
  go_wp2
  go_ret2
  exact ⟨by rw [HP.out, ← HZ.out]; rfl, HF.out⟩
 have q5 : ((a : Int) < (n : Int)) = False := eq_false (by omega)
 have q6 : (a < n) = False := eq_false hal
 rw [dif_neg (by rw [← HX.out.1]; exact hal)] at hfp
 have HFN := Lib.hid hfp
 clear hfp hpl hal hlt han hbn
 go_wp2
 go_ret2
 exact ⟨by rw [HP.out, HFN.out]; rfl, hR.out.fp⟩
set_option maxHeartbeats 1000000 in
theorem placeP_c (v : Value) (l : List Nd) (p : Bs) (w : World) (hv : Ns w v l) (ha : Asc l) (hn : l.length ≤ 1000000) :
  Calls Tryz.prog 107 #[v, .string (B p)] w fun e w' => e = .returned (.tuple #[.int .i64 (place l p), .bool (find l p).isSome]) ∧ Fp Non w w' := by
 have hs := SearchP_c v l p w hv ha hn
 obtain ⟨ao, cap, rfl⟩ := hv.shape
 generalize l.length = n at *
 have HS := Lib.hid hs
 clear hs hv hn ha
 go_enter Tryz.func107, Tryz.ntmps107
 go_wp2_with fail
 refine HS.out.mono ?_
 rintro e w1 ⟨rfl, hf⟩
 have HF := Lib.hid hf
 clear hf
 go_wp2
 go_ret2
 exact ⟨rfl, HF.out⟩
end Go.Proofs.YtphoglepiegeiaaGreatDoor
