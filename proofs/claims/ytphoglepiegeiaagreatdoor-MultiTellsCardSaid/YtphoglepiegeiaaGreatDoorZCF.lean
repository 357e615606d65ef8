/- A text of this proof. -/
import Derived.Lib.SliceRun
import Derived.Test.YtphoglepiegeiaaGreatDoorZCD
import Derived.Test.YtphoglepiegeiaaGreatDoorZCE
set_option linter.unusedSimpArgs false
set_option linter.unusedVariables false
namespace Go.Proofs.YtphoglepiegeiaaGreatDoor
set_option maxRecDepth 20000
namespace Pm
def kn (n : Nd) : Nd := { n with turn := 0 }
def turnsOf (l : List Nd) : List Tu := (l.filter (fun n => n.turn != 0)).map (fun n => ⟨n.path, n.turn⟩)
def keep (l : List Nd) : St := ⟨l.map kn, turnsOf l⟩
theorem Asc.kn {l : List Nd} (h : Asc l) : Asc (l.map kn) := by
 intro i j hi hj hij
 simp only [List.length_map] at hi hj
 simp only [List.getElem_map]
 exact h i j hi hj hij
theorem find_kn (l : List Nd) (p : Bs) : find (l.map kn) p = (find l p).map kn := by
 unfold find; rw [List.find?_map]; rfl
theorem place_kn (l : List Nd) (p : Bs) : place (l.map kn) p = place l p := by
 unfold place; rw [List.countP_map]; rfl
theorem filter_kn (l : List Nd) (q : Nd → Bool) (hq : ∀ n, q (kn n) = q n) : (l.map kn).filter q = (l.filter q).map kn := by
 rw [List.filter_map]
 congr 1
 apply List.filter_congr
 intro n _
 exact hq n
theorem kids_kn (l : List Nd) (p : Bs) : kids (l.map kn) p = (kids l p).map kn := filter_kn l _ (fun _ => rfl)
theorem asc_ext : ∀ {a b : List Nd}, Asc a → Asc b → (∀ n, n ∈ a ↔ n ∈ b) → a = b := by
 intro a
 induction a with
 | nil =>
  intro b _ _ h
  cases b with
  | nil => rfl
  | cons y b => have := (h y).2 (List.mem_cons_self ..); simp at this
 | cons x a ih =>
  intro b ha hb h
  cases b with
  | nil => have := (h x).1 (List.mem_cons_self ..); simp at this
  | cons y b => ?_
  have hxy : x = y := by
   have h1 : x ∈ y :: b := (h x).1 (List.mem_cons_self ..)
   have h2 : y ∈ x :: a := (h y).2 (List.mem_cons_self ..)
   rcases List.mem_cons.1 h1 with e | k1
   ·exact e
   rcases List.mem_cons.1 h2 with e | k2
   ·exact e.symm
   have l1 := hb.head x k1
   have l2 := ha.head y k2
   rw [lt_asymm l1] at l2; cases l2
  subst hxy
  congr 1
  refine ih ha.tail hb.tail (fun n => ⟨fun k => ?_, fun k => ?_⟩)
  ·have := (h n).1 (List.mem_cons_of_mem _ k)
   rcases List.mem_cons.1 this with rfl | e
   ·have := ha.head n k; rw [lt_irrefl] at this; cases this
   exact e
  have := (h n).2 (List.mem_cons_of_mem _ k)
  rcases List.mem_cons.1 this with rfl | e
  ·have := hb.head n k; rw [lt_irrefl] at this; cases this
  exact e
theorem mem_map_tn {l : List Tu} {t : Tu} : tn t ∈ l.map tn ↔ t ∈ l := by
 rw [List.mem_map]
 exact ⟨fun ⟨s, hs, e⟩ => by rw [← tn_inj e]; exact hs, fun h => ⟨t, h, rfl⟩⟩
theorem ascT_ext {a b : List Tu} (ha : AscT a) (hb : AscT b) (h : ∀ t, t ∈ a ↔ t ∈ b) : a = b := by
 apply map_tn_inj
 refine asc_ext (ascT_iff.1 ha) (ascT_iff.1 hb) (fun n => ?_)
 rw [List.mem_map, List.mem_map]
 exact ⟨fun ⟨t, k, e⟩ => ⟨t, (h t).1 k, e⟩, fun ⟨t, k, e⟩ => ⟨t, (h t).2 k, e⟩⟩
theorem mem_turnsOf {l : List Nd} {t : Tu} : t ∈ turnsOf l ↔ ∃ n ∈ l, n.path = t.dir ∧ n.turn = t.next ∧ n.turn ≠ 0 := by
 unfold turnsOf
 rw [List.mem_map]
 constructor
 ·rintro ⟨n, hn, rfl⟩
  obtain ⟨h1, h2⟩ := List.mem_filter.1 hn
  exact ⟨n, h1, rfl, rfl, by simpa using h2⟩
 rintro ⟨n, h1, h2, h3, h4⟩
 refine ⟨n, List.mem_filter.2 ⟨h1, by simpa using h4⟩, ?_⟩
 obtain ⟨d, x⟩ := t
 simp only at h2 h3
 rw [h2, h3]
theorem Asc.turnsOf {l : List Nd} (h : Asc l) : AscT (turnsOf l) := by
 rw [ascT_iff]
 unfold Pm.turnsOf
 rw [List.map_map]
 have h2 := h.filter (fun n => n.turn != 0)
 intro i j hi hj hij
 simp only [List.length_map] at hi hj
 simp only [List.getElem_map]
 exact h2 i j hi hj hij
theorem findT_of {l : List Tu} (h : AscT l) {t : Tu} (ht : t ∈ l) : findT l t.dir = some t := by
 have := find_of (ascT_iff.1 h) (mem_map_tn.2 ht)
 rw [find_tn] at this
 cases hf : findT l (tn t).path with
 | none => rw [hf] at this; cases this
 | some s => ?_
 rw [hf] at this
 rw [show t.dir = (tn t).path from rfl, hf]
 rw [tn_inj (Option.some.inj this)]
theorem findT_turnsOf {l : List Nd} (h : Asc l) (p : Bs) : findT (turnsOf l) p = (find l p).bind (fun n => if n.turn ≠ 0 then some ⟨p, n.turn⟩ else none) := by
 cases hf : find l p with
 | none =>
  rw [Option.bind_none, findT_none]
  intro t ht e
  obtain ⟨n, hn, h1, _⟩ := mem_turnsOf.1 ht
  exact find_none.1 hf n hn (h1.trans e)
 | some n => ?_
 obtain ⟨hn, hp⟩ := find_mem hf
 rw [Option.bind_some]
 split
 ·rename_i h0
  have := findT_of h.turnsOf (t := ⟨p, n.turn⟩) (mem_turnsOf.2 ⟨n, hn, hp, rfl, h0⟩)
  exact this
 rename_i h0
 rw [findT_none]
 intro t ht e
 obtain ⟨m, hm, h1, _, h3⟩ := mem_turnsOf.1 ht
 have := find_of h hm
 rw [h1, e, hf] at this
 rw [← Option.some.inj this] at h3
 exact h0 h3
theorem turnOf_turnsOf {l : List Nd} (h : Asc l) {p : Bs} {n : Nd} (hn : find l p = some n) : turnOf (turnsOf l) p = n.turn := by
 unfold turnOf
 rw [findT_turnsOf h, hn, Option.bind_some]
 by_cases h0 : n.turn = 0
 ·rw [if_neg (by simpa using h0)]; simp [h0]
 rw [if_pos h0]; rfl
theorem mem_setT {l : List Tu} (h : AscT l) (p : Bs) (n : Int) (t : Tu) : t ∈ setT l p n ↔ (t.dir ≠ p ∧ t ∈ l) ∨ (n ≠ 0 ∧ t = ⟨p, n⟩) := by
 rw [setT_eq h]
 have hm : ∀ k, t ∈ insT (l.filter (fun t => t.dir != p)) k ⟨p, n⟩ ↔ t = ⟨p, n⟩ ∨ t ∈ l.filter (fun t => t.dir != p) := by
  intro k
  refine ⟨mem_insT, fun h => ?_⟩
  unfold insT
  rw [List.mem_append, List.mem_cons]
  rcases h with h | h
  ·exact .inr (.inl h)
  rw [← List.take_append_drop k (l.filter _), List.mem_append] at h
  rcases h with h | h
  ·exact .inl h
  exact .inr (.inr h)
 have hf : t ∈ l.filter (fun t => t.dir != p) ↔ t.dir ≠ p ∧ t ∈ l := by
  rw [List.mem_filter]; simp [and_comm]
 split
 ·rename_i h0
  rw [hm, hf]
  exact ⟨fun k => k.elim (fun e => .inr ⟨h0, e⟩) .inl, fun k => k.elim .inr (fun e => .inl e.2)⟩
 rename_i h0
 rw [hf]
 exact ⟨.inl, fun k => k.elim id (fun e => absurd e.1 h0)⟩
theorem ascT_setT {l : List Tu} (h : AscT l) (p : Bs) (n : Int) : AscT (setT l p n) := by
 rw [setT_eq h]
 have hA := ascT_filter h (fun t => t.dir != p)
 split
 ·exact ascT_ins hA n (by rw [findT_none]; intro t ht; have := (List.mem_filter.1 ht).2; simpa using this)
 exact hA
theorem setT_turnsOf {l : List Nd} (h : Asc l) {p : Bs} {x : Nd} (hx : find l p = some x) (t : Int) : setT (turnsOf l) p t = turnsOf (l.set (place l p) { x with turn := t }) := by
 obtain ⟨hk, e⟩ := find_at h hx
 obtain ⟨hxm, hxp⟩ := find_mem hx
 have hA : Asc (l.set (place l p) { x with turn := t }) := h.set hk _ (by rw [e])
 refine ascT_ext (ascT_setT h.turnsOf p t) hA.turnsOf (fun s => ?_)
 rw [mem_setT h.turnsOf, mem_turnsOf, mem_turnsOf]
 have hfs := fun q => find_set h hk { x with turn := t } (by rw [e]) q
 constructor
 ·rintro (⟨h1, n, h2, h3, h4, h5⟩ | ⟨h1, rfl⟩)
  ·refine ⟨n, ?_, h3, h4, h5⟩
   have := hfs n.path
   rw [if_neg (fun k => h1 (by rw [← h3, k]; exact hxp)), find_of h h2] at this
   exact (find_mem this).1
  exact ⟨{ x with turn := t }, List.mem_set hk _, hxp, rfl, h1⟩
 rintro ⟨n, h2, h3, h4, h5⟩
 have hn := find_of hA h2
 rw [hfs] at hn
 by_cases hp : n.path = x.path
 ·rw [if_pos hp] at hn
  obtain rfl := (Option.some.inj hn).symm
  refine .inr ⟨fun k => h5 k, ?_⟩
  obtain ⟨d, y⟩ := s
  simp only at h3 h4
  rw [← h3, ← h4, hxp]
 rw [if_neg hp] at hn
 exact .inl ⟨fun k => hp (by rw [hxp, ← k, h3]), n, (find_mem hn).1, h3, h4, h5⟩
theorem kn_set (l : List Nd) (i : Nat) (y : Nd) : (l.set i y).map kn = (l.map kn).set i (kn y) := List.map_set ..
theorem kn_ins (l : List Nd) (k : Nat) (x : Nd) : (ins l k x).map kn = ins (l.map kn) k (kn x) := by
 unfold ins; rw [List.map_append, List.map_cons, List.map_take, List.map_drop]
theorem set_same {l : List Nd} {i : Nat} {x : Nd} (hi : i < l.length) (e : l[i] = x) : l.set i x = l := by rw [← e]; exact List.set_getElem_self hi
theorem turnsOf_same {a b : List Nd} (ha : Asc a) (hb : Asc b) (h : ∀ n : Nd, n.turn ≠ 0 → ((∃ m ∈ a, m.path = n.path ∧ m.turn = n.turn) ↔ ∃ m ∈ b, m.path = n.path ∧ m.turn = n.turn)) : turnsOf a = turnsOf b := by
 refine ascT_ext ha.turnsOf hb.turnsOf (fun s => ?_)
 rw [mem_turnsOf, mem_turnsOf]
 constructor
 ·rintro ⟨n, h2, h3, h4, h5⟩
  obtain ⟨m, k1, k2, k3⟩ := (h n h5).1 ⟨n, h2, rfl, rfl⟩
  exact ⟨m, k1, k2.trans h3, k3.trans h4, by rw [k3]; exact h5⟩
 rintro ⟨n, h2, h3, h4, h5⟩
 obtain ⟨m, k1, k2, k3⟩ := (h n h5).2 ⟨n, h2, rfl, rfl⟩
 exact ⟨m, k1, k2.trans h3, k3.trans h4, by rw [k3]; exact h5⟩
theorem Tr.turnB {l : List Nd} (h : Tr l) {n : Nd} (hn : n ∈ l) : 0 ≤ n.turn ∧ n.turn ≤ 10000 := by
 have := (fits_iff n).1 (h.fit n hn); omega
theorem Tr.store {l : List Nd} (h : Tr l) : StR (keep l) := by
 refine ⟨fun n hn => ?_, h.asc.kn, fun t ht => ?_, h.asc.turnsOf⟩
 ·obtain ⟨m, hm, rfl⟩ := List.mem_map.1 hn
  have hf := (fits_iff m).1 (h.fit m hm)
  obtain ⟨ps, hs⟩ := h.valid hm
  rw [sfit_iff]
  refine ⟨by show (split m.path).isSome = true; rw [hs]; rfl, hf.1, rfl, fun k => ?_, hf.2.1, hf.2.2.1, hf.2.2.2.2.2.1, hf.2.2.2.2.2.2.1⟩
  obtain ⟨r, hr, h0⟩ := h.root
  have := find_of h.asc hm
  rw [show m.path = [47] from k.1, hr] at this
  rw [Option.some.inj this] at h0
  exact k.2 h0
 obtain ⟨m, hm, h1, h2, h3⟩ := mem_turnsOf.1 ht
 obtain ⟨ps, hs⟩ := h.valid hm
 have hb := h.turnB hm
 unfold Pm.tfit
 rw [← h1, ← h2, hs]
 simp only [Option.isSome_some, Bool.true_and, decide_eq_true_eq]; omega
inductive Runs (s : St) (ps : List Pt) : Nat → St → List Res → Prop where
 | zero : Runs s ps 0 s []
 | succ {k : Nat} {now x : St} {rs : List Res} {r : Res} (h : Runs s ps k now rs) (hk : k < ps.length) (ha : applyP now ps[k] = (x, r)) (h0 : r.err = 0) : Runs s ps (k + 1) x (rs ++ [r])
theorem Runs.det {s : St} {ps : List Pt} {k : Nat} {a b : St} {r q : List Res} (h : Runs s ps k a r) (g : Runs s ps k b q) : a = b ∧ r = q := by
 induction h generalizing b q with
 | zero => cases g with | zero => exact ⟨rfl, rfl⟩
 | succ h hk ha h0 ih =>
  cases g with
  | succ g hk' ha' h0' => ?_
  obtain ⟨rfl, rfl⟩ := ih g
  rw [ha] at ha'
  injection ha' with e1 e2
  subst e1 e2
  exact ⟨rfl, rfl⟩
theorem Runs.len {s : St} {ps : List Pt} {k : Nat} {a : St} {r : List Res} (h : Runs s ps k a r) : r.length = k := by
 induction h with
 | zero => rfl
 | succ h hk ha h0 ih => rw [List.length_append, ih]; rfl
theorem Runs.back {s : St} {ps : List Pt} {k : Nat} {a : St} {r : List Res} (h : Runs s ps k a r) {j : Nat} (hj : j < k) : ∃ now rs, Runs s ps j now rs ∧ ∃ hj : j < ps.length, (applyP now ps[j]).2.err = 0 := by
 induction h with
 | zero => omega
 | @succ k now x rs r h hk ha h0 ih =>
  by_cases e : j = k
  ·subst e; exact ⟨now, rs, h, hk, by rw [ha]; exact h0⟩
  exact ih (by omega)
theorem Runs.more {s : St} {ps qs : List Pt} {k : Nat} {a : St} {r : List Res} (h : Runs s ps k a r) : Runs s (ps ++ qs) k a r := by
 induction h with
 | zero => exact .zero
 | succ h hk ha h0 ih => exact .succ ih (by rw [List.length_append]; omega) (by rw [List.getElem_append_left hk]; exact ha) h0
theorem Runs.app {s a : St} {ps qs : List Pt} {r : List Res} (h : Runs s ps ps.length a r) {k : Nat} {b : St} {q : List Res} (g : Runs a qs k b q) : Runs s (ps ++ qs) (ps.length + k) b (r ++ q) := by
 induction g with
 | zero => rw [Nat.add_zero, List.append_nil]; exact h.more
 | @succ k now x rs r' g hk ha h0 ih =>
  rw [← List.append_assoc]
  have hlt : ps.length + k < (ps ++ qs).length := by rw [List.length_append]; omega
  have e : (ps ++ qs)[ps.length + k] = qs[k] := by rw [List.getElem_append_right (by omega)]; simp only [Nat.add_sub_cancel_left]
  exact .succ (k := ps.length + k) ih hlt (by rw [e]; exact ha) h0
end Pm
namespace Pm
def Acts (s : St) (ps : List Pt) (e : Int) (y : St) : Prop :=
 (e = 0 ∧ ∃ rs, Runs s ps ps.length y rs) ∨ (e ≠ 0 ∧ ∃ k now rs, ∃ hk : k < ps.length, Runs s ps k now rs ∧ (applyP now ps[k]).2.err = e)
theorem acts1 {s y : St} {p : Pt} (h : (applyP s p).2.err = 0 → (applyP s p).1 = y) : Acts s [p] (applyP s p).2.err y := by
 by_cases h0 : (applyP s p).2.err = 0
 ·exact .inl ⟨h0, _, by rw [← h h0]; exact .succ .zero (by simp) rfl h0⟩
 exact .inr ⟨h0, 0, s, [], by simp, .zero, rfl⟩
theorem acts2a {s y : St} {p q : Pt} (h : (applyP s p).2.err ≠ 0) : Acts s [p, q] (applyP s p).2.err y := .inr ⟨h, 0, s, [], by simp, .zero, rfl⟩
theorem acts2b {s x y : St} {p q : Pt} {r : Res} (ha : applyP s p = (x, r)) (hr : r.err = 0) (h : (applyP x q).2.err = 0 → (applyP x q).1 = y) : Acts s [p, q] (applyP x q).2.err y := by
 have h1 : Runs s [p, q] 1 x [r] := .succ .zero (by simp) ha hr
 by_cases h0 : (applyP x q).2.err = 0
 ·exact .inl ⟨h0, _, by rw [← h h0]; exact .succ h1 (by simp) rfl h0⟩
 exact .inr ⟨h0, 1, x, [r], by simp, h1, rfl⟩
theorem upB_of {p u : Bs} (h : parent p = some u) : upB p = u := by unfold upB; rw [h]; rfl
theorem turnsOf_erase {l : List Nd} (h : Asc l) {p : Bs} {x : Nd} (hx : find l p = some x) : turnsOf (l.eraseIdx (place l p)) = setT (turnsOf l) p 0 := by
 rw [filter_erase h hx]
 have hA := h.filter (fun n => n.path != p)
 refine ascT_ext hA.turnsOf (ascT_setT h.turnsOf p 0) (fun s => ?_)
 rw [mem_setT h.turnsOf, mem_turnsOf, mem_turnsOf]
 constructor
 ·rintro ⟨n, h2, h3, h4, h5⟩
  obtain ⟨a, b⟩ := List.mem_filter.1 h2
  exact .inl ⟨by rw [← h3]; simpa using b, n, a, h3, h4, h5⟩
 rintro (⟨h1, n, h2, h3, h4, h5⟩ | ⟨h1, _⟩)
 ·exact ⟨n, List.mem_filter.2 ⟨h2, by rw [h3]; simpa using h1⟩, h3, h4, h5⟩
 exact absurd rfl h1
theorem kids_erase {l : List Nd} (h : Asc l) {p : Bs} {x : Nd} (hx : find l p = some x) : kids (l.eraseIdx (place l p)) p = kids l p := by
 rw [filter_erase h hx]
 unfold kids
 rw [List.filter_filter]
 apply List.filter_congr
 intro n _
 by_cases e : n.path = p
 ·have : parent n.path ≠ some p := fun k => by have := parent_lt k; rw [e, lt_irrefl] at this; cases this
  simp [this]
 simp [e]
theorem keep_erase {l : List Nd} (h : Asc l) {p : Bs} {x : Nd} (hx : find l p = some x) : keep (l.eraseIdx (place l p)) = ⟨(l.map kn).eraseIdx (place l p), setT (turnsOf l) p 0⟩ := by
 unfold keep
 rw [turnsOf_erase h hx]
 congr 1
 generalize place l p = k
 clear hx h
 induction l generalizing k with
 | nil => simp
 | cons a l ih =>
  cases k with
  | zero => rfl
  | succ k => rw [List.eraseIdx_cons_succ, List.map_cons, List.map_cons, List.eraseIdx_cons_succ, ih]
theorem keep_set {l : List Nd} (h : Asc l) {p : Bs} {x : Nd} (hx : find l p = some x) (d : Bs) (v : Int) : keep (l.set (place l p) { x with data := d, ver := v }) = ⟨(l.map kn).set (place l p) { kn x with data := d, ver := v }, turnsOf l⟩ := by
 obtain ⟨hk, e⟩ := find_at h hx
 unfold keep
 rw [kn_set]
 have hA : Asc (l.set (place l p) { x with data := d, ver := v }) := h.set hk _ (by rw [e])
 rw [turnsOf_same hA h (fun n hn => ?_)]
 ·rfl
 have hfs := fun q => find_set h hk { x with data := d, ver := v } (by rw [e]) q
 constructor
 ·rintro ⟨m, h1, h2, h3⟩
  have hm := find_of hA h1
  rw [hfs] at hm
  by_cases hp : m.path = x.path
  ·rw [if_pos hp] at hm
   obtain rfl := (Option.some.inj hm).symm
   exact ⟨x, (find_mem hx).1, h2, h3⟩
  rw [if_neg hp] at hm
  exact ⟨m, (find_mem hm).1, h2, h3⟩
 rintro ⟨m, h1, h2, h3⟩
 have hm := find_of h h1
 by_cases hp : m.path = x.path
 ·have : x = m := by have := find_of h (find_mem hx).1; rw [← hp, hm] at this; exact (Option.some.inj this).symm
  subst this
  exact ⟨_, List.mem_set hk _, h2, h3⟩
 have := hfs m.path
 rw [if_neg hp, hm] at this
 exact ⟨m, (find_mem this).1, h2, h3⟩
theorem keep_sweep {l : List Nd} (h : Tr l) (o : Opn) (h0 : o.own ≠ 0) : keep (l.filter (fun n => !swept o n)) = ⟨(l.map kn).filter (fun n => !swept o n), turnsOf l⟩ := by
 unfold keep
 rw [filter_kn l (fun n => !swept o n) (fun _ => rfl)]
 congr 1
 refine turnsOf_same (h.asc.filter _) h.asc (fun n hn => ⟨fun ⟨m, h1, h2⟩ => ⟨m, (List.mem_filter.1 h1).1, h2⟩, fun ⟨m, h1, h2, h3⟩ => ⟨m, List.mem_filter.2 ⟨h1, ?_⟩, h2, h3⟩⟩)
 have hf := (fits_iff m).1 (h.fit m h1)
 have : m.own = 0 := by rcases hf.2.2.2.2.2.2.2 with k | k; exact k; rw [h3] at k; exact absurd k hn
 unfold swept
 rw [this]
 have : ((0 : Int) == o.own) = false := beq_eq_false_iff_ne.2 (fun e => h0 e.symm)
 rw [this]; rfl
theorem create_keep {l : List Nd} (h : Tr l) {o : Opn} {u p : Bs} {x : Nd} (hx : find l u = some x) (h0 : x.own = 0) (hn : named o u x.turn = some p) (hp : find l p = none) (_ : l.length < 512) (hu : parent o.path = some u) :
  keep (ins (if o.turns = true then l.set (place l u) { x with turn := x.turn + 1 } else l) (place l p) ⟨p, o.data, 0, 0, o.own⟩) =
   ⟨ins (l.map kn) (place (l.map kn) p) ⟨p, o.data, 0, 0, o.own⟩, if o.turns = true then setT (turnsOf l) u (x.turn + 1) else turnsOf l⟩ := by
 have hT := h.turned hx h0 hn
 obtain ⟨f1, f2, f3⟩ := turned_facts (o := o) h hx
 have hpu := named_parent hu hn
 have hup : p ≠ u := fun e => by have := parent_lt hpu; rw [e, lt_irrefl] at this; cases this
 unfold keep
 rw [kn_ins, place_kn]
 have e1 : (if o.turns = true then l.set (place l u) { x with turn := x.turn + 1 } else l).map kn = l.map kn := by
  split
  ·obtain ⟨hk, e⟩ := find_at h.asc hx
   rw [kn_set]
   exact set_same (by rw [List.length_map]; exact hk) (by rw [List.getElem_map, e]; rfl)
  rfl
 rw [e1]
 congr 1
 have e2 : (if o.turns = true then setT (turnsOf l) u (x.turn + 1) else turnsOf l) = turnsOf (if o.turns = true then l.set (place l u) { x with turn := x.turn + 1 } else l) := by
  split
  ·exact setT_turnsOf h.asc hx _
  rfl
 rw [e2]
 have hnp : find (if o.turns = true then l.set (place l u) { x with turn := x.turn + 1 } else l) p = none := by rw [f1, if_neg (fun k => hup k.2)]; exact hp
 have hA := hT.asc.ins ⟨p, o.data, 0, 0, o.own⟩ hnp
 rw [f2 p] at hA
 refine turnsOf_same hA hT.asc (fun n hn => ?_)
 constructor
 ·rintro ⟨m, h1, h2, h3⟩
  rcases mem_ins.1 h1 with rfl | h1
  ·exact absurd h3.symm hn
  exact ⟨m, h1, h2, h3⟩
 rintro ⟨m, h1, h2, h3⟩
 exact ⟨m, mem_ins.2 (.inr h1), h2, h3⟩
set_option maxHeartbeats 1000000 in
theorem parts_do {l : List Nd} (h : Tr l) {o : Opn} (hm : may o = true) (hl : l.length < 512) : Acts (keep l) (partsOf o) (perform l o).2.err (keep (perform l o).1) := by
 have hS := h.store
 have hpm := partsOf_may o
 have hA := h.asc
 have hv : -1 ≤ o.ver ∨ ¬ (o.kind = 2 ∨ o.kind = 3 ∨ o.kind = 4) := by
  by_cases hk : o.kind = 2 ∨ o.kind = 3 ∨ o.kind = 4
  ·left
   unfold may at hm
   simp only [Bool.and_eq_true] at hm
   have := hm.2
   rcases hk with k | k | k <;> simp [k] at this <;> omega
  exact .inr hk
 have hfk : ∀ p, find (keep l).nodes p = (find l p).map kn := find_kn l
 have hpk : ∀ p, place (keep l).nodes p = place l p := place_kn l
 have hkk : ∀ p, kids (keep l).nodes p = (kids l p).map kn := kids_kn l
 have hkid : ∀ p, (kids (keep l).nodes p = []) = (kids l p = []) := fun p => by rw [hkk]; simp
 have hkind := may_kind hm
 unfold partsOf at hpm ⊢
 rw [if_pos hm] at hpm ⊢
 by_cases k1 : o.kind = 1
 ·rw [if_pos k1] at hpm ⊢
  obtain ⟨u, hu⟩ := may_parent hm (.inl k1)
  rw [upB_of hu] at hpm ⊢
  have m1 := (hpm _ (List.mem_cons_self ..)).1
  have m2 := (hpm _ (List.mem_cons_of_mem _ (List.mem_cons_self ..))).1
  have e1 : applyP (keep l) ⟨1, upB u, u, [], 0, 0, false⟩ = (match find l u with | none => (keep l, .bad 62) | some n => if n.own ≠ 0 then (keep l, .bad 65) else (keep l, okR)) := by
   rw [applyP_yes hS m1]
   unfold doP
   simp only [hfk]
   cases find l u with
   | none => simp
   | some n => simp [versionedP, kn]
  unfold perform
  rw [if_pos k1]
  unfold create
  simp only [hu, Option.getD_some]
  cases hx : find l u with
  | none =>
   rw [hx] at e1
   simp only
   have := acts2a (y := keep l) (q := ⟨2, u, o.path, o.data, 0, o.own, o.turns⟩) (by rw [e1]; simp [Res.bad])
   rw [e1] at this; exact this
  | some x => ?_
  rw [hx] at e1
  simp only at e1 ⊢
  by_cases h0 : x.own = 0
  ·rw [if_neg (by simpa using h0)] at e1 ⊢
   have e2 : applyP (keep l) ⟨2, u, o.path, o.data, 0, o.own, o.turns⟩ = (match named o u x.turn with
     | none => (keep l, .bad 66)
     | some q => if (find l q).isSome = true then (keep l, .bad 61) else (⟨ins (l.map kn) (place (l.map kn) q) ⟨q, o.data, 0, 0, o.own⟩, if o.turns = true then setT (turnsOf l) u (x.turn + 1) else turnsOf l⟩, ⟨0, q, [], 0, []⟩)) := by
    rw [applyP_yes hS m2]
    unfold doP putS newPath named
    simp only [if_true]
    have ht : turnOf (keep l).turns u = x.turn := turnOf_turnsOf hA hx
    rw [ht]
    cases (if o.turns = true then (numbered (last o.path) x.turn).bind (join u) else some o.path) with
    | none => rfl
    | some q => ?_
    simp only [hfk, Option.isSome_map]
    rfl
   cases hn : named o u x.turn with
   | none =>
    rw [hn] at e2
    simp only at e2 ⊢
    have := acts2b (q := ⟨2, u, o.path, o.data, 0, o.own, o.turns⟩) (y := keep l) e1 rfl (by rw [e2]; intro _; rfl)
    rw [e2] at this; exact this
   | some p => ?_
   rw [hn] at e2
   simp only at e2 ⊢
   by_cases hp : (find l p).isSome = true
   ·rw [if_pos hp] at e2 ⊢
    have := acts2b (q := ⟨2, u, o.path, o.data, 0, o.own, o.turns⟩) (y := keep l) e1 rfl (by rw [e2]; intro _; rfl)
    rw [e2] at this; exact this
   rw [if_neg hp] at e2 ⊢
   rw [if_neg (by omega)]
   have hk := create_keep h hx h0 hn (by simpa using hp) hl hu
   have := acts2b (q := ⟨2, u, o.path, o.data, 0, o.own, o.turns⟩) e1 rfl (by rw [e2]; intro _; exact hk.symm)
   rw [e2] at this; exact this
  rw [if_pos h0] at e1 ⊢
  have := acts2a (y := keep l) (q := ⟨2, u, o.path, o.data, 0, o.own, o.turns⟩) (by rw [e1]; simp [Res.bad])
  rw [e1] at this; exact this
 rw [if_neg k1] at hpm ⊢
 unfold perform
 rw [if_neg k1]
 have ver : ∀ x : Nd, (0 ≤ o.ver ∧ o.ver ≠ x.ver) = (o.ver ≠ -1 ∧ o.ver ≠ x.ver) ∨ ¬ (o.kind = 2 ∨ o.kind = 3 ∨ o.kind = 4) := fun x => by
  rcases hv with hv | hv
  ·left; apply propext; constructor <;> intro h <;> exact ⟨by omega, h.2⟩
  exact .inr hv
 by_cases k2 : o.kind = 2
 ·rw [if_pos k2] at hpm ⊢
  have m1 := (hpm _ (List.mem_cons_self ..)).1
  have m2 := (hpm _ (List.mem_cons_of_mem _ (List.mem_cons_self ..))).1
  have e1 : applyP (keep l) ⟨3, upB o.path, o.path, [], o.ver, 0, false⟩ = (match find l o.path with | none => (keep l, .bad 62) | some n => if 0 ≤ o.ver ∧ o.ver ≠ n.ver then (keep l, .bad 63) else (⟨(l.map kn).eraseIdx (place l o.path), turnsOf l⟩, okR)) := by
   rw [applyP_yes hS m1]
   unfold doP
   simp only [hfk, hpk]
   cases find l o.path with
   | none => simp
   | some n => simp [versionedP, kn]; rfl
  cases hx : find l o.path with
  | none =>
   rw [hx] at e1
   simp only
   have := acts2a (y := keep l) (q := ⟨4, o.path, o.path, [], 0, 0, false⟩) (by rw [e1]; simp [Res.bad])
   rw [e1] at this; exact this
  | some x => ?_
  rw [hx] at e1
  simp only at e1 ⊢
  have hvx : (0 ≤ o.ver ∧ o.ver ≠ x.ver) = (versioned o.kind = true ∧ o.ver ≠ -1 ∧ o.ver ≠ x.ver) := by
   rcases ver x with e | e
   ·rw [e]; simp [versioned, k2]
   exact absurd (.inl k2) e
  by_cases hc : versioned o.kind = true ∧ o.ver ≠ -1 ∧ o.ver ≠ x.ver
  ·rw [if_pos (hvx.mpr hc)] at e1
   rw [if_pos hc]
   have := acts2a (y := keep l) (q := ⟨4, o.path, o.path, [], 0, 0, false⟩) (by rw [e1]; simp [Res.bad])
   rw [e1] at this; exact this
  rw [if_neg (fun k => hc (hvx.mp k))] at e1
  rw [if_neg hc]
  unfold doit
  rw [if_pos k2]
  have hS2 : StR ⟨(l.map kn).eraseIdx (place l o.path), turnsOf l⟩ := by
   have := hS.doP m1
   rw [← applyP_yes hS m1, e1] at this; exact this
  have e2 : applyP ⟨(l.map kn).eraseIdx (place l o.path), turnsOf l⟩ ⟨4, o.path, o.path, [], 0, 0, false⟩ = if kids l o.path = [] then (keep (l.eraseIdx (place l o.path)), okR) else (⟨(l.map kn).eraseIdx (place l o.path), turnsOf l⟩, .bad 64) := by
   rw [applyP_yes hS2 m2]
   have hkd : kids ((l.map kn).eraseIdx (place l o.path)) o.path = (kids l o.path).map kn := by
    have := kids_erase hA.kn (p := o.path) (x := kn x) (by rw [find_kn, hx]; rfl)
    rw [place_kn] at this; rw [this]; exact kids_kn l _
   rw [keep_erase hA hx]
   unfold doP
   simp [hkd]
  by_cases hkd : kids l o.path = []
  ·rw [if_pos hkd] at e2 ⊢
   have := acts2b (q := ⟨4, o.path, o.path, [], 0, 0, false⟩) e1 rfl (by rw [e2]; intro _; exact rfl)
   rw [e2] at this; exact this
  rw [if_neg hkd] at e2 ⊢
  have := acts2b (q := ⟨4, o.path, o.path, [], 0, 0, false⟩) (y := keep l) e1 rfl (by rw [e2]; intro k; simp [Res.bad] at k)
  rw [e2] at this; exact this
 rw [if_neg k2] at hpm ⊢
 by_cases k3 : o.kind = 3
 ·rw [if_pos k3] at hpm ⊢
  have m1 := (hpm _ (List.mem_cons_self ..)).1
  have e1 : applyP (keep l) ⟨5, upB o.path, o.path, o.data, o.ver, 0, false⟩ = (match find l o.path with | none => (keep l, .bad 62) | some n => if 0 ≤ o.ver ∧ o.ver ≠ n.ver then (keep l, .bad 63) else if n.ver = 281474976710656 then (keep l, .bad 2) else (⟨(l.map kn).set (place l o.path) { kn n with data := o.data, ver := n.ver + 1 }, turnsOf l⟩, ⟨0, [], [], n.ver + 1, []⟩)) := by
   rw [applyP_yes hS m1]
   unfold doP
   simp only [hfk, hpk]
   cases find l o.path with
   | none => simp
   | some n => simp [versionedP, kn]; rfl
  cases hx : find l o.path with
  | none =>
   rw [hx] at e1
   simp only
   have := acts1 (y := keep l) (s := keep l) (p := ⟨5, upB o.path, o.path, o.data, o.ver, 0, false⟩) (by rw [e1]; intro _; rfl)
   rw [e1] at this; exact this
  | some x => ?_
  rw [hx] at e1
  simp only at e1 ⊢
  have hvx : (0 ≤ o.ver ∧ o.ver ≠ x.ver) = (versioned o.kind = true ∧ o.ver ≠ -1 ∧ o.ver ≠ x.ver) := by
   rcases ver x with e | e
   ·rw [e]; simp [versioned, k3]
   exact absurd (.inr (.inl k3)) e
  by_cases hc : versioned o.kind = true ∧ o.ver ≠ -1 ∧ o.ver ≠ x.ver
  ·rw [if_pos (hvx.mpr hc)] at e1
   rw [if_pos hc]
   have := acts1 (y := keep l) (s := keep l) (p := ⟨5, upB o.path, o.path, o.data, o.ver, 0, false⟩) (by rw [e1]; intro _; rfl)
   rw [e1] at this; exact this
  rw [if_neg (fun k => hc (hvx.mp k))] at e1
  rw [if_neg hc]
  unfold doit
  rw [if_neg k2, if_pos k3]
  by_cases hvm : x.ver = 281474976710656
  ·rw [if_pos hvm] at e1 ⊢
   have := acts1 (y := keep l) (s := keep l) (p := ⟨5, upB o.path, o.path, o.data, o.ver, 0, false⟩) (by rw [e1]; intro _; rfl)
   rw [e1] at this; exact this
  rw [if_neg hvm] at e1 ⊢
  have := acts1 (y := keep (l.set (place l o.path) { x with data := o.data, ver := x.ver + 1 })) (s := keep l) (p := ⟨5, upB o.path, o.path, o.data, o.ver, 0, false⟩) (by rw [e1]; intro _; exact (keep_set hA hx _ _).symm)
  rw [e1] at this; exact this
 rw [if_neg k3] at hpm ⊢
 by_cases k4 : o.kind = 4
 ·rw [if_pos k4] at hpm ⊢
  have m1 := (hpm _ (List.mem_cons_self ..)).1
  have e1 : applyP (keep l) ⟨6, upB o.path, o.path, [], o.ver, 0, false⟩ = (match find l o.path with | none => (keep l, .bad 62) | some n => if 0 ≤ o.ver ∧ o.ver ≠ n.ver then (keep l, .bad 63) else (keep l, ⟨0, [], [], n.ver, []⟩)) := by
   rw [applyP_yes hS m1]
   unfold doP
   simp only [hfk, hpk]
   cases find l o.path with
   | none => simp
   | some n => simp [versionedP, kn]
  cases hx : find l o.path with
  | none =>
   rw [hx] at e1
   simp only
   have := acts1 (y := keep l) (s := keep l) (p := ⟨6, upB o.path, o.path, [], o.ver, 0, false⟩) (by rw [e1]; intro _; rfl)
   rw [e1] at this; exact this
  | some x => ?_
  rw [hx] at e1
  simp only at e1 ⊢
  have hvx : (0 ≤ o.ver ∧ o.ver ≠ x.ver) = (versioned o.kind = true ∧ o.ver ≠ -1 ∧ o.ver ≠ x.ver) := by
   rcases ver x with e | e
   ·rw [e]; simp [versioned, k4]
   exact absurd (.inr (.inr k4)) e
  by_cases hc : versioned o.kind = true ∧ o.ver ≠ -1 ∧ o.ver ≠ x.ver
  ·rw [if_pos (hvx.mpr hc)] at e1
   rw [if_pos hc]
   have := acts1 (y := keep l) (s := keep l) (p := ⟨6, upB o.path, o.path, [], o.ver, 0, false⟩) (by rw [e1]; intro _; rfl)
   rw [e1] at this; exact this
  rw [if_neg (fun k => hc (hvx.mp k))] at e1
  rw [if_neg hc]
  unfold doit
  rw [if_neg k2, if_neg k3, if_pos k4]
  have := acts1 (y := keep l) (s := keep l) (p := ⟨6, upB o.path, o.path, [], o.ver, 0, false⟩) (by rw [e1]; intro _; rfl)
  rw [e1] at this; exact this
 rw [if_neg k4] at hpm ⊢
 have hnv : ∀ x : Nd, ¬ (versioned o.kind = true ∧ o.ver ≠ -1 ∧ o.ver ≠ x.ver) := fun x k => by
  have := k.1
  unfold versioned at this
  simp [k2, k3, k4] at this
 by_cases k5 : o.kind = 5
 ·rw [if_pos k5] at hpm ⊢
  have m1 := (hpm _ (List.mem_cons_self ..)).1
  have e1 : applyP (keep l) ⟨7, upB o.path, o.path, [], 0, 0, false⟩ = (match find l o.path with | none => (keep l, .bad 62) | some n => (keep l, ⟨0, [], n.data, n.ver, []⟩)) := by
   rw [applyP_yes hS m1]
   unfold doP
   simp only [hfk, hpk]
   cases find l o.path with
   | none => simp
   | some n => simp [versionedP, kn]
  cases hx : find l o.path with
  | none =>
   rw [hx] at e1
   simp only
   have := acts1 (y := keep l) (s := keep l) (p := ⟨7, upB o.path, o.path, [], 0, 0, false⟩) (by rw [e1]; intro _; rfl)
   rw [e1] at this; exact this
  | some x => ?_
  rw [hx] at e1
  simp only at e1 ⊢
  rw [if_neg (hnv x)]
  unfold doit
  rw [if_neg k2, if_neg k3, if_neg k4, if_pos k5]
  have := acts1 (y := keep l) (s := keep l) (p := ⟨7, upB o.path, o.path, [], 0, 0, false⟩) (by rw [e1]; intro _; rfl)
  rw [e1] at this; exact this
 rw [if_neg k5] at hpm ⊢
 have eh : mayP ⟨8, upB o.path, o.path, [], 0, 0, false⟩ = true → applyP (keep l) ⟨8, upB o.path, o.path, [], 0, 0, false⟩ = (match find l o.path with | none => (keep l, .bad 62) | some n => (keep l, okR)) := fun m1 => by
  rw [applyP_yes hS m1]
  unfold doP
  simp only [hfk, hpk]
  cases find l o.path with
  | none => simp
  | some n => simp [versionedP]
 by_cases k6 : o.kind = 6
 ·rw [if_pos k6] at hpm ⊢
  have m1 := (hpm _ (List.mem_cons_self ..)).1
  have m2 := (hpm _ (List.mem_cons_of_mem _ (List.mem_cons_self ..))).1
  have e1 := eh m1
  cases hx : find l o.path with
  | none =>
   rw [hx] at e1
   simp only
   have := acts2a (y := keep l) (q := ⟨9, o.path, o.path, [], 0, 0, false⟩) (by rw [e1]; simp [Res.bad])
   rw [e1] at this; exact this
  | some x => ?_
  rw [hx] at e1
  simp only at e1 ⊢
  rw [if_neg (hnv x)]
  unfold doit
  rw [if_neg k2, if_neg k3, if_neg k4, if_neg k5, if_pos k6]
  have e2 : applyP (keep l) ⟨9, o.path, o.path, [], 0, 0, false⟩ = (keep l, ⟨0, [], [], 0, (kids (keep l).nodes o.path).map (fun n => last n.path)⟩) := by
   rw [applyP_yes hS m2]; unfold doP; simp
  have := acts2b (q := ⟨9, o.path, o.path, [], 0, 0, false⟩) (y := keep l) e1 rfl (by rw [e2]; intro _; rfl)
  rw [e2] at this; exact this
 rw [if_neg k6] at hpm ⊢
 have k7 : o.kind = 7 := by omega
 have m1 := (hpm _ (List.mem_cons_self ..)).1
 have m2 := (hpm _ (List.mem_cons_of_mem _ (List.mem_cons_self ..))).1
 have e1 := eh m1
 cases hx : find l o.path with
 | none =>
  rw [hx] at e1
  simp only
  have := acts2a (y := keep l) (q := ⟨10, o.path, o.path, [], 0, o.own, false⟩) (by rw [e1]; simp [Res.bad])
  rw [e1] at this; exact this
 | some x => ?_
 rw [hx] at e1
 simp only at e1 ⊢
 rw [if_neg (hnv x)]
 unfold doit
 rw [if_neg k2, if_neg k3, if_neg k4, if_neg k5, if_neg k6]
 have h0 : o.own ≠ 0 := by
  unfold may at hm
  simp only [Bool.and_eq_true] at hm
  have := hm.2
  simp [k7] at this; omega
 have e2 : applyP (keep l) ⟨10, o.path, o.path, [], 0, o.own, false⟩ = (⟨(l.map kn).filter (fun n => !swept o n), turnsOf l⟩, ⟨0, [], [], 0, ((keep l).nodes.filter (swept o)).map (fun n => last n.path)⟩) := by
  rw [applyP_yes hS m2]; unfold doP; simp; exact ⟨⟨rfl, rfl⟩, rfl⟩
 have := acts2b (q := ⟨10, o.path, o.path, [], 0, o.own, false⟩) (y := keep (l.filter (fun n => !swept o n))) e1 rfl (by rw [e2]; intro _; exact (keep_sweep h o h0).symm)
 rw [e2] at this; exact this
end Pm
namespace Pm
def mayL (l : List Opn) : Bool := decide (1 ≤ l.length ∧ l.length ≤ 8) && l.all may
def partsL (l : List Opn) : List Pt := l.flatMap partsOf
def piecesFrom : Nat → List Opn → List (Nat × Pt)
 | _, [] => []
 | i, o :: l => (partsOf o).map (fun p => (i, p)) ++ piecesFrom (i + 1) l
def piecesOf (l : List Opn) : List (Nat × Pt) := if mayL l = true then piecesFrom 0 l else []
theorem pieces_snd (i : Nat) (l : List Opn) : (piecesFrom i l).map Prod.snd = partsL l := by
 induction l generalizing i with
 | nil => rfl
 | cons o l ih => unfold piecesFrom partsL; rw [List.map_append, ih, List.map_map, List.flatMap_cons, show (Prod.snd ∘ fun p : Pt => (i, p)) = id from rfl, List.map_id]; rfl
theorem pieces_app (i : Nat) (a b : List Opn) : piecesFrom i (a ++ b) = piecesFrom i a ++ piecesFrom (i + a.length) b := by
 induction a generalizing i with
 | nil => rfl
 | cons o a ih => simp only [List.cons_append, piecesFrom, ih, List.append_assoc, List.length_cons]; rw [show i + 1 + a.length = i + (a.length + 1) from by omega]
inductive RunO (t : List Nd) (l : List Opn) : Nat → List Nd → List Res → Prop where
 | zero : RunO t l 0 t []
 | succ {k : Nat} {now x : List Nd} {rs : List Res} {r : Res} (h : RunO t l k now rs) (hk : k < l.length) (ha : apply now l[k] = (x, r)) (h0 : r.err = 0) : RunO t l (k + 1) x (rs ++ [r])
theorem RunO.det {s : List Nd} {ps : List Opn} {k : Nat} {a b : List Nd} {r q : List Res} (h : RunO s ps k a r) (g : RunO s ps k b q) : a = b ∧ r = q := by
 induction h generalizing b q with
 | zero => cases g with | zero => exact ⟨rfl, rfl⟩
 | succ h hk ha h0 ih =>
  cases g with
  | succ g hk' ha' h0' => ?_
  obtain ⟨rfl, rfl⟩ := ih g
  rw [ha] at ha'
  injection ha' with e1 e2
  subst e1 e2
  exact ⟨rfl, rfl⟩
theorem RunO.len {s : List Nd} {ps : List Opn} {k : Nat} {a : List Nd} {r : List Res} (h : RunO s ps k a r) : r.length = k := by
 induction h with
 | zero => rfl
 | succ h hk ha h0 ih => rw [List.length_append, ih]; rfl
theorem RunO.back {s : List Nd} {ps : List Opn} {k : Nat} {a : List Nd} {r : List Res} (h : RunO s ps k a r) {j : Nat} (hj : j < k) : ∃ now x rs q, RunO s ps j now rs ∧ ∃ hj : j < ps.length, ∃ hr : j < r.length, apply now ps[j] = (x, q) ∧ q.err = 0 ∧ r[j] = q := by
 induction h with
 | zero => omega
 | @succ k now x rs r h hk ha h0 ih =>
  have hl := h.len
  by_cases e : j = k
  ·subst e
   exact ⟨now, x, rs, r, h, hk, by rw [List.length_append]; simp; omega, ha, h0, by rw [List.getElem_append_right (by omega)]; simp⟩
  obtain ⟨now', x', rs', q, h1, h2, h3, h4, h5, h6⟩ := ih (by omega)
  exact ⟨now', x', rs', q, h1, h2, by rw [List.length_append]; omega, h4, h5, by rw [List.getElem_append_left h3]; exact h6⟩
theorem perform_len (l : List Nd) (o : Opn) : (perform l o).1.length ≤ l.length + 1 := by
 unfold perform
 split
 ·unfold create
  simp only
  split
  ·simp
  split
  ·simp
  split
  ·simp
  split
  ·simp
  split
  ·simp
  rw [ins_length]
  split <;> simp
 split
 ·simp
 split
 ·simp
 unfold doit
 split
 ·split
  ·have := List.length_eraseIdx_le l (place l o.path); simp only; omega
  simp
 split
 ·split <;> simp
 split
 ·simp
 split
 ·simp
 split
 ·simp
 exact Nat.le_trans (List.length_filter_le _ _) (by omega)
theorem mayL_iff (l : List Opn) : mayL l = true ↔ (1 ≤ l.length ∧ l.length ≤ 8) ∧ ∀ o ∈ l, may o = true := by
 unfold mayL; rw [Bool.and_eq_true, decide_eq_true_eq, List.all_eq_true]
theorem RunO.tree {t : List Nd} {l : List Opn} (hT : Tr t) (hm : ∀ o ∈ l, may o = true) {k : Nat} {now : List Nd} {rs : List Res} (h : RunO t l k now rs) : Tr now ∧ now.length ≤ t.length + k := by
 induction h with
 | zero => exact ⟨hT, Nat.le_refl _⟩
 | @succ k now x rs r h hk ha h0 ih =>
  have hmo := hm _ (List.getElem_mem hk)
  rw [apply_yes ih.1 hmo] at ha
  have h1 := perform_tr ih.1 hmo
  have h2 := perform_len now l[k]
  rw [ha] at h1 h2
  exact ⟨h1, by simp only at h2; omega⟩
theorem partsL_app (a b : List Opn) : partsL (a ++ b) = partsL a ++ partsL b := by unfold partsL; rw [List.flatMap_append]
theorem partsL_one (o : Opn) : partsL [o] = partsOf o := by unfold partsL; simp
theorem take_one {l : List Opn} {k : Nat} (hk : k < l.length) : l.take (k + 1) = l.take k ++ [l[k]] := by rw [List.take_succ_eq_append_getElem hk]
theorem RunO.parts {t : List Nd} {l : List Opn} (hT : Tr t) (hm : ∀ o ∈ l, may o = true) (hl : t.length + l.length ≤ 512) {k : Nat} {now : List Nd} {rs : List Res} (h : RunO t l k now rs) :
  ∃ q, Runs (keep t) (partsL (l.take k)) (partsL (l.take k)).length (keep now) q := by
 induction h with
 | zero => exact ⟨[], .zero⟩
 | @succ k now x rs r h hk ha h0 ih =>
  obtain ⟨q, ih⟩ := ih
  have hmo := hm _ (List.getElem_mem hk)
  obtain ⟨h1, h2⟩ := h.tree hT hm
  rw [apply_yes h1 hmo] at ha
  have hd := parts_do h1 hmo (by omega)
  rw [ha] at hd
  rcases hd with ⟨_, q', hd⟩ | ⟨hne, _⟩
  ·rw [take_one hk, partsL_app, partsL_one, List.length_append]
   exact ⟨_, ih.app hd⟩
  exact absurd h0 hne
theorem pieces_all {t : List Nd} {l : List Opn} (hT : Tr t) (hm : ∀ o ∈ l, may o = true) (hl : t.length + l.length ≤ 512) {a : List Nd} {rs : List Res} (h : RunO t l l.length a rs) :
  ∃ q, Runs (keep t) (partsL l) (partsL l).length (keep a) q := by
 have := h.parts hT hm hl
 rwa [List.take_length] at this
end Pm
open Go.RowKit Pm
def Kp (P : World → Prop) (W : World) : Prop := ∀ W', Fp Non W W' → P W'
theorem Kp.later {P : World → Prop} {W W' : World} (h : Kp P W) (f : Fp Non W W') : Kp P W' := fun W2 g => h W2 (f.then g)
theorem Kp.now {P : World → Prop} {W : World} (h : Kp P W) : P W := h W (Fp.refl _ _)
theorem Kp.and {P Q : World → Prop} {W : World} (h : Kp P W) (k : Kp Q W) : Kp (fun W' => P W' ∧ Q W') W := fun W' f => ⟨h W' f, k W' f⟩
theorem Kp.fp {w W : World} (h : Fp Non w W) : Kp (fun W' => Fp Non w W') W := fun W' f => h.then f
theorem Kp.row {W : World} {b : Nat} {o : Obj} (h : W.heap[b]? = some o) : Kp (fun W' => W'.heap[b]? = some o) W := fun W' f => f.heap h id
theorem Kp.ns {W : World} {v : Value} {l : List Nd} (h : Ns W v l) : Kp (fun W' => Ns W' v l) W := fun W' f => h.non f
theorem Kp.nd {W : World} {g o : Nat} {x : Nd} (h : NdAt W g o x) : Kp (fun W' => NdAt W' g o x) W := fun W' f => h.keep f id
theorem Kp.tab {W : World} (h : Tab W) : Kp Tab W := fun W' f => h.non f
theorem fp_alloc (W : World) (o : Obj) : Fp Non W (W.alloc o) := (Fp.refl Non W).alloc o
theorem few_sp {l : List Nd} (h : l.length ≤ 1667 ∧ ∀ x ∈ l, x.path.length ≤ 5000 ∧ x.data.length ≤ 5000) : Sp l := fun x hx => by have := (h.2 x hx).1; omega
theorem tr_few {l : List Nd} (h : Tr l) : l.length ≤ 1000000 ∧ Sp l := ⟨by have := h.most; omega, fun x hx => by
 obtain ⟨ps, hs⟩ := h.valid hx
 obtain ⟨hP, e⟩ := (split_iff _ _).1 hs
 have := joinP_len hP
 rw [e] at this; omega⟩
set_option maxHeartbeats 400000 in
theorem upP_c (p : Bs) (w : World) (hl : p.length ≤ 1000000) :
  Calls Tryz.prog 77 #[.string (B p)] w fun e w' => e = .returned (.string (B (upB p))) ∧ Fp Non w w' := by
 have hpa := fun w => Parent_g p w (sz_of hl (by omega))
 cases h : parent p with
 | none =>
  rw [h] at hpa
  simp only [Option.getD_none, Option.isSome_none] at hpa
  have e : upB p = [47] := by unfold upB; rw [h]; rfl
  rw [e]
  have HP := zI hpa
  clear hpa hl h e
  go_enter Tryz.func77, Tryz.ntmps77
  go_wp2_with fail
  refine (HP.out _).mono ?_
  rintro e w1 ⟨rfl, g1⟩
  have F := zI g1.fp
  clear g1
  go_wp2
  go_ret
  exact ⟨rfl, F.out⟩
 | some u => ?_
 rw [h] at hpa
 simp only [Option.getD_some, Option.isSome_some] at hpa
 have e : upB p = u := by unfold upB; rw [h]; rfl
 rw [e]
 have HP := zI hpa
 clear hpa hl h e
 go_enter Tryz.func77, Tryz.ntmps77
 go_wp2_with fail
 refine (HP.out _).mono ?_
 rintro e w1 ⟨rfl, g1⟩
 have F := zI g1.fp
 clear g1
 go_wp2
 go_ret
 exact ⟨rfl, F.out⟩
set_option maxHeartbeats 1000000 in
theorem keptAt_c (k : Int) (p : Bs) (w : World) (hl : p.length ≤ 1000000) :
  Calls Tryz.prog 68 #[.int .i64 k, .string (B p)] w fun e w' => e = .returned (.string (B (keptAt k p))) ∧ Fp Non w w' := by
 have hup := fun w => upP_c p w hl
 have HU := zI hup
 by_cases h : k = 4 ∨ k = 9 ∨ k = 10
 ·have e : keptAt k p = p := by unfold keptAt; rw [if_pos h]
  rw [e]
  clear hup hl e
  rcases h with rfl | rfl | rfl
  ·go_enter Tryz.func68, Tryz.ntmps68
   go_wp2
   go_ret
   exact ⟨rfl, Fp.refl _ _⟩
  ·go_enter Tryz.func68, Tryz.ntmps68
   go_wp2
   go_ret
   exact ⟨rfl, Fp.refl _ _⟩
  go_enter Tryz.func68, Tryz.ntmps68
  go_wp2
  go_ret
  exact ⟨rfl, Fp.refl _ _⟩
 have e : keptAt k p = upB p := by unfold keptAt; rw [if_neg h]
 rw [e]
 have q4 : (k == 4) = false := beq_eq_false_iff_ne.2 (fun e => h (.inl e))
 have q9 : (k == 9) = false := beq_eq_false_iff_ne.2 (fun e => h (.inr (.inl e)))
 have q10 : (k == 10) = false := beq_eq_false_iff_ne.2 (fun e => h (.inr (.inr e)))
 clear hup hl e h
 go_enter Tryz.func68, Tryz.ntmps68
 go_wp2_with fail
 refine (HU.out _).mono ?_
 rintro e w1 ⟨rfl, hf⟩
 have F := zI hf
 clear hf
 go_wp2
 go_ret
 exact ⟨rfl, F.out⟩
theorem withinP_c (n a b : Int) (w : World) :
  Calls Tryz.prog 65 #[.int .i64 n, .int .i64 a, .int .i64 b] w fun e w' => e = .returned (.bool (decide (a ≤ n ∧ n ≤ b))) ∧ w = w' := by
 go_enter Tryz.func65, Tryz.ntmps65
 go_wp2
 all_goals (go_ret; refine ⟨ret_bool ?_, rfl⟩; simp; omega)
theorem withinP_d (n a b : Int) (w : World) (r : Bool) (hr : decide (a ≤ n ∧ n ≤ b) = r) :
  Calls Tryz.prog 65 #[.int .i64 n, .int .i64 a, .int .i64 b] w fun e w' => e = .returned (.bool r) ∧ w = w' := by
 rw [← hr]; exact withinP_c n a b w
set_option maxHeartbeats 400000 in
theorem refusedP_c (x : Int) (w : World) :
  Calls Tryz.prog 54 #[.int .i64 x] w fun e w' => e = .returned (badV x) ∧ Fp Non w w' := by
 go_enter Tryz.func54, Tryz.ntmps54
 go_wp2
 exact bodyPost_ret (v := badV x) (by simp [results, Tryz.results54, go_sem, badV]) rfl ⟨rfl, (Fp.refl Non w).alloc _⟩
theorem boxP5 {w : World} {b : Nat} {T : TypeId} {c0 c1 c2 c3 c4 : Value} (h : w.heap[b]? = some (.cells #[c0, c1, c2, c3, c4] T (0, 0))) :
  w.cell? ⟨b, 0, none⟩ = some c0 ∧ w.cell? ⟨b, 1, none⟩ = some c1 ∧ w.cell? ⟨b, 2, none⟩ = some c2 ∧ w.cell? ⟨b, 3, none⟩ = some c3 ∧ w.cell? ⟨b, 4, none⟩ = some c4 :=
 ⟨by rw [cell_of_row _ _ _ _ _ _ h]; rfl, by rw [cell_of_row _ _ _ _ _ _ h]; rfl, by rw [cell_of_row _ _ _ _ _ _ h]; rfl, by rw [cell_of_row _ _ _ _ _ _ h]; rfl, by rw [cell_of_row _ _ _ _ _ _ h]; rfl⟩
set_option maxHeartbeats 8000000 in
theorem fitsP_c (n : Nd) (w : World) (hl : n.path.length ≤ 1000000) :
  Calls Tryz.prog 63 #[ndV n] w fun e w' => e = .returned (.bool (sfit n)) ∧ Fp Non w w' := by
 have hri := fun w => Right_g n.path w (sz_of hl (by omega))
 obtain ⟨p, d, v, t, o⟩ := n
 obtain ⟨sp, hsp⟩ : ∃ b, (split p).isSome = b := ⟨_, rfl⟩
 simp only at hri
 rw [hsp] at hri
 obtain ⟨b1, h1⟩ : ∃ r, decide ((0 : Int) ≤ v ∧ v ≤ 281474976710656) = r := ⟨_, rfl⟩
 obtain ⟨b3, h3⟩ : ∃ r, decide ((0 : Int) ≤ o ∧ o ≤ 1099511627776) = r := ⟨_, rfl⟩
 obtain ⟨k, hk⟩ : ∃ k, k = d.length := ⟨_, rfl⟩
 have W1 := zI (fun w => withinP_d v 0 281474976710656 w b1 h1)
 have W3 := zI (fun w => withinP_d o 0 1099511627776 w b3 h3)
 obtain ⟨r, hr⟩ : ∃ r, sfit ⟨p, d, v, t, o⟩ = r := ⟨_, rfl⟩
 have key : r = (sp && decide (k ≤ 256) && decide (t = 0) && !(decide (p = [47]) && decide (o ≠ 0)) && b1 && b3) := by
  rw [← hr, ← hsp, ← h1, ← h3, hk]
  by_cases a1 : p = [47] <;> by_cases a2 : o = 0 <;> (rw [Bool.eq_iff_iff, sfit_iff]; simp [a1, a2, and_assoc])
 have HR := zI hri
 have HK := zI key
 rw [hr]
 have hf0 := fp_alloc w (.cells #[.string (B p), .string (B d), .int .i64 v, .int .i64 t, .int .i64 o] TN)
 have hb0 := heap_alloc_new w (.cells #[.string (B p), .string (B d), .int .i64 v, .int .i64 t, .int .i64 o] TN)
 have HF0 := zI (yI hf0 hb0)
 unfold ndV strV
 clear hri hsp h1 h3 hr key hf0 hb0 hl
 cases sp with
 | false =>
  clear hk
  go_enter Tryz.func63, Tryz.ntmps63
  go_wp2_with fail
  refine (HR.out _).mono ?_
  rintro e w1 ⟨rfl, g1⟩
  have F := zI (HF0.out.1.then g1.fp)
  clear g1
  go_wp2
  go_ret
  exact ⟨ret_bool (by rw [HK.out]; rfl), F.out⟩
 | true => ?_
 have fin : ∀ c : Bool, (decide (k ≤ 256) && decide (t = 0) && !(decide (p = [47]) && decide (o ≠ 0)) && b1 && b3) = c → r = c := fun c h => by rw [HK.out, ← h]; rfl
 have HFin := zI fin
 clear fin HK
 by_cases hd : k ≤ 256
 ·have q1 : ((256 : Int) < (d.length : Int)) = False := eq_false (by omega)
  by_cases ht : t = 0
  ·have q2 : (t != 0) = false := by simp [ht]
   by_cases hp : p = [47]
   ·subst hp
    by_cases ho : o = 0
    ·have q3 : (o != 0) = false := by simp [ho]
     have Q := zI (yI hd (yI ht ho))
     clear hd hk ht ho
     go_enter Tryz.func63, Tryz.ntmps63
     go_wp2_with fail
     refine (HR.out _).mono ?_
     rintro e w1 ⟨rfl, g1⟩
     have F := zI (HF0.out.1.then g1.fp)
     obtain ⟨c0, c1, c2, c3, c4⟩ := boxP5 (g1.fp.heap HF0.out.2 id)
     clear g1
     cases b1 <;> cases b3
     all_goals
      go_wp2_with (first
       | (go_at_call_of 65 v; refine (W1.out _).mono ?_; rintro e w2 ⟨rfl, rfl⟩)
       | (go_at_call_of 65 o; refine (W3.out _).mono ?_; rintro e w2 ⟨rfl, rfl⟩))
      go_ret
      exact ⟨ret_bool (HFin.out _ (by simp [Q.out])).symm, F.out⟩
    have q3 : (o != 0) = true := by simp [ho]
    have Q := zI (yI hd (yI ht ho))
    clear hd hk ht ho
    go_enter Tryz.func63, Tryz.ntmps63
    go_wp2_with fail
    refine (HR.out _).mono ?_
    rintro e w1 ⟨rfl, g1⟩
    have F := zI (HF0.out.1.then g1.fp)
    obtain ⟨c0, c1, c2, c3, c4⟩ := boxP5 (g1.fp.heap HF0.out.2 id)
    clear g1
    go_wp2
    go_ret
    exact ⟨ret_bool (HFin.out _ (by simp [Q.out])).symm, F.out⟩
   have q4 : (p == [47]) = false := by simpa using hp
   have Q := zI (yI hd (yI ht hp))
   clear hd hk ht hp
   go_enter Tryz.func63, Tryz.ntmps63
   go_wp2_with fail
   refine (HR.out _).mono ?_
   rintro e w1 ⟨rfl, g1⟩
   have F := zI (HF0.out.1.then g1.fp)
   obtain ⟨c0, c1, c2, c3, c4⟩ := boxP5 (g1.fp.heap HF0.out.2 id)
   clear g1
   cases b1 <;> cases b3
   all_goals
    go_wp2_with (first
     | (go_at_call_of 65 v; refine (W1.out _).mono ?_; rintro e w2 ⟨rfl, rfl⟩)
     | (go_at_call_of 65 o; refine (W3.out _).mono ?_; rintro e w2 ⟨rfl, rfl⟩))
    go_ret
    exact ⟨ret_bool (HFin.out _ (by simp [Q.out])).symm, F.out⟩
  have q2 : (t != 0) = true := by simp [ht]
  have Q := zI (yI hd ht)
  clear hd hk ht
  go_enter Tryz.func63, Tryz.ntmps63
  go_wp2_with fail
  refine (HR.out _).mono ?_
  rintro e w1 ⟨rfl, g1⟩
  have F := zI (HF0.out.1.then g1.fp)
  obtain ⟨c0, c1, c2, c3, c4⟩ := boxP5 (g1.fp.heap HF0.out.2 id)
  clear g1
  go_wp2
  go_ret
  exact ⟨ret_bool (HFin.out _ (by simp [Q.out])).symm, F.out⟩
 have q1 : ((256 : Int) < (d.length : Int)) = True := eq_true (by omega)
 have Q := zI hd
 clear hd hk
 go_enter Tryz.func63, Tryz.ntmps63
 go_wp2_with fail
 refine (HR.out _).mono ?_
 rintro e w1 ⟨rfl, g1⟩
 have F := zI (HF0.out.1.then g1.fp)
 obtain ⟨c0, c1, c2, c3, c4⟩ := boxP5 (g1.fp.heap HF0.out.2 id)
 clear g1
 go_wp2
 go_ret
 exact ⟨ret_bool (HFin.out _ (by simp [Q.out])).symm, F.out⟩
def OSp (l : List Opn) : Prop := ∀ x ∈ l, x.path.length ≤ 1000000
structure PdO (S : Nat → Prop) (wc : World) (f : Value) (q : Opn → Bool) : Prop where
 ex : ∃ k fi cap, f = .func (.func k) fi cap ∧ Enters Tryz.prog k ∧ ∀ n w1, n.path.length ≤ 1000000 → Fp S wc w1 →
  Calls Tryz.prog k (fi ++ #[opV n] ++ cap) w1 fun e w2 => e = .returned (.bool (q n)) ∧ Fp Non w1 w2
theorem PdO.later {S : Nat → Prop} {wc w : World} {f : Value} {q : Opn → Bool} (h : PdO S wc f q) (g : Fp S wc w) : PdO S w f q := by
 obtain ⟨k, fi, cap, e, h1, h2⟩ := h.ex
 exact ⟨k, fi, cap, e, h1, fun n w1 hn hf => h2 n w1 hn (g.same hf)⟩
theorem PdO.non {S : Nat → Prop} {wc : World} {f : Value} {q : Opn → Bool} (h : PdO S wc f q) : PdO Non wc f q := by
 obtain ⟨k, fi, cap, e, h1, h2⟩ := h.ex
 exact ⟨k, fi, cap, e, h1, fun n w1 hn hf => h2 n w1 hn hf.any⟩
def IdxO (q : Opn → Bool) (l : List Opn) (z : Int) : Prop := (z = -1 ∧ ∀ n ∈ l, q n = false) ∨ ∃ i, z = ((i : Nat) : Int) ∧ ∃ h : i < l.length, q l[i] = true ∧ ∀ j (hj : j < l.length), j < i → q l[j] = false
set_option maxHeartbeats 1000000 in
theorem IndexFuncO_c (v f : Value) (l : List Opn) (q : Opn → Bool) (w : World) (hv : Ops w v l) (hs : OSp l) (hq : PdO Non w f q) (hn : l.length ≤ 1000000) :
  Calls Tryz.prog 114 #[v, f] w fun e w' => (∃ z, e = .returned (.int .i64 z) ∧ IdxO q l z) ∧ Fp Non w w' := by
 obtain ⟨ao, cap, rfl⟩ := hv.shape
 obtain ⟨n, hnn⟩ : ∃ n, n = l.length := ⟨_, rfl⟩
 obtain ⟨kf, fi, fc, rfl, hen, hcall⟩ := hq.ex
 have HX := zI (yI hnn (yI hv (yI hs hcall)))
 rw [← hnn]
 have hnb : n ≤ 1000000 := by omega
 clear hv hs hq hcall hn hnn
 go_enter Tryz.func114, Tryz.ntmps114
 go_wp2_with fail
 go_loopw [8] (fun i wr => ∃ k : Nat, k ≤ n ∧ i = .int .i64 k ∧ Hid (Fp Non w wr ∧ ∀ j (hj : j < l.length), j < k → q l[j] = false)) (fun i _ => n - (RowKit.intOf i).toNat)
 case atStart => exact ⟨0, Nat.zero_le _, rfl, Fp.refl _ _, fun j _ h => absurd h (Nat.not_lt_zero j)⟩
 obtain ⟨k, hk, rfl, hR⟩ := hrel
 rename_i wr _
 by_cases hlt : k < n
 ·have hkl : k < l.length := by rw [← HX.out.1]; exact hlt
  obtain ⟨g, o, cap', e, hcell⟩ := HX.out.2.1.at (by omega)
  injection e with e1 e2 e3
  subst e1 e3
  have hnd := (hcell k hkl).keep hR.out.1 id
  have hcc := HX.out.2.2.2 l[k] wr (HX.out.2.2.1 _ (List.getElem_mem hkl)) hR.out.1
  obtain ⟨b, hb⟩ : ∃ b, q l[k] = b := ⟨_, rfl⟩
  rw [hb] at hcc
  have HB := zI (yI hkl (yI hb hlt))
  have HL := zI (yI hkl hlt)
  have hnew : b = false → ∀ j (hj : j < l.length), j < k + 1 → q l[j] = false := fun h j hj hjk => by
   rcases Nat.lt_or_eq_of_le (show j ≤ k by omega) with e | e
   ·exact hR.out.2 j hj e
   subst e; rw [hb, h]
  have hfin : b = true → IdxO q l (k : Int) := fun h => .inr ⟨k, rfl, hkl, by rw [hb, h], fun j hj hjk => hR.out.2 j hj hjk⟩
  have HN := zI (yI hnew hfin)
  clear HB hnew hfin hb hcell
  generalize l[k] = x at *
  have c0 := hnd.c0; have c1 := hnd.c1; have c2 := hnd.c2; have c3 := hnd.c3; have c4 := hnd.c4; have c5 := hnd.c5
  unfold strV at c1 c2
  unfold opV strV at hcc
  have q3 : ((k : Int) < (n : Int)) = True := eq_true (by omega)
  have q4 : (k < n) = True := eq_true hlt
  have HCC := zI hcc
  clear hnd hcc hkl hlt
  go_wp2_with fail
  rw [hen _ _]
  go_wp2_with fail
  refine HCC.out.mono ?_
  rintro e w2 ⟨rfl, hf2⟩
  have HF := zI (hR.out.1.then hf2)
  clear hf2
  cases b with
  | true =>
   have hI := HN.out.2 rfl
   have HI := zI hI
   clear HN hI
   go_wp2
   go_ret
   exact ⟨⟨_, rfl, HI.out⟩, HF.out⟩
  | false => ?_
  have hM : Hid (Fp Non w w2 ∧ ∀ j (hj : j < l.length), j < k + 1 → q l[j] = false) := ⟨HF.out, HN.out.1 rfl⟩
  have hkn := HL.out.2
  clear HN
  go_wp2
  go_roundw
  case rel => exact ⟨k + 1, by omega, by go_num, hM⟩
  case measure => simp [RowKit.intOf]; omega
 have hke : k = n := by omega
 subst hke
 have q3 : ((k : Int) < (k : Int)) = False := eq_false (by omega)
 have hI : IdxO q l (-1) := .inl ⟨rfl, fun x hx => by
  obtain ⟨i, hi, rfl⟩ := List.getElem_of_mem hx
  exact hR.out.2 i hi (by rw [HX.out.1]; exact hi)⟩
 have HI := zI hI
 clear hlt hk hI
 go_wp2
 go_ret
 exact ⟨⟨_, rfl, HI.out⟩, hR.out.1⟩
theorem IdxO.pos {q : Opn → Bool} {l : List Opn} {z : Int} (h : IdxO q l z) : decide (0 ≤ z) = l.any q := by
 rcases h with ⟨rfl, h⟩ | ⟨i, rfl, hi, h, _⟩
 ·have : l.any q = false := by rw [List.any_eq_false]; intro x hx; simp [h x hx]
  rw [this]; rfl
 have : l.any q = true := List.any_eq_true.2 ⟨_, List.getElem_mem hi, h⟩
 rw [this]; simp
set_option maxHeartbeats 1000000 in
theorem ContainsFuncO_c (v f : Value) (l : List Opn) (q : Opn → Bool) (w : World) (hv : Ops w v l) (hs : OSp l) (hq : PdO Non w f q) (hn : l.length ≤ 1000000) :
  Calls Tryz.prog 83 #[v, f] w fun e w' => e = .returned (.bool (l.any q)) ∧ Fp Non w w' := by
 have hi := IndexFuncO_c v f l q w hv hs hq hn
 have HI := zI hi
 obtain ⟨ao, cap, rfl⟩ := hv.shape
 obtain ⟨kf, fi, fc, rfl, _, _⟩ := hq.ex
 clear hi hv hq hs hn
 go_enter Tryz.func83, Tryz.ntmps83
 go_wp2_with fail
 refine HI.out.mono ?_
 rintro e w1 ⟨⟨z, rfl, hz⟩, hf⟩
 have HZ := zI (yI hz.pos hf)
 clear hz hf
 go_wp2
 go_ret
 exact ⟨ret_bool HZ.out.1, HZ.out.2⟩
set_option maxHeartbeats 1000000 in
theorem mMay1_c (o : Opn) (w : World) (hl : o.path.length ≤ 1000000) :
  Calls Tryz.prog 84 #[opV o] w fun e w' => e = .returned (.bool (!may o)) ∧ Fp Non w w' := by
 have hm := fun w => May_c o w hl
 obtain ⟨b, hb⟩ : ∃ b, may o = b := ⟨_, rfl⟩
 rw [hb] at hm
 rw [hb]
 obtain ⟨kk, p, d, v, ow, tt⟩ := o
 unfold opV strV at *
 simp only at *
 have hf0 := fp_alloc w (.cells #[.int .i64 kk, .string (B p), .string (B d), .int .i64 v, .int .i64 ow, .bool tt] TO_)
 have HF0 := zI hf0
 have HM := zI hm
 clear hm hf0 hb hl
 go_enter Tryz.func84, Tryz.ntmps84
 go_wp2_with fail
 refine (HM.out _).mono ?_
 rintro e w1 ⟨rfl, hf⟩
 have F := zI (HF0.out.then hf)
 clear hf
 go_wp2
 go_ret
 exact ⟨rfl, F.out⟩
theorem any_not_may (l : List Opn) : (l.any fun o => !may o) = !(l.all may) := by
 induction l with
 | nil => rfl
 | cons o l ih => rw [List.any_cons, List.all_cons, ih, Bool.not_and]
set_option maxHeartbeats 2000000 in
theorem mMay_c (v : Value) (l : List Opn) (w : World) (hv : Ops w v l) (hs : OSp l) (hn : l.length ≤ 1000000) :
  Calls Tryz.prog 42 #[v] w fun e w' => e = .returned (.bool (mayL l)) ∧ Fp Non w w' := by
 have hen : Enters Tryz.prog 84 := fun args w => enters_of Tryz.func84 (by kernel_rfl) rfl args w
 have hpd : PdO Non w (.func (.func 84) #[] #[]) (fun o => !may o) := ⟨_, #[], #[], rfl, hen, fun o w1 ho _ => mMay1_c o w1 ho⟩
 have hcf := ContainsFuncO_c v _ l _ w hv hs hpd hn
 rw [any_not_may] at hcf
 obtain ⟨ao, cap, rfl⟩ := hv.shape
 obtain ⟨n, hnn⟩ : ∃ n, n = l.length := ⟨_, rfl⟩
 obtain ⟨al, hal⟩ : ∃ b, l.all may = b := ⟨_, rfl⟩
 have key : mayL l = (decide (1 ≤ n ∧ n ≤ 8) && al) := by unfold mayL; rw [hal, hnn]
 rw [hal] at hcf
 rw [← hnn] at hcf ⊢
 have HC := zI hcf
 have HK := zI key
 clear hcf hal key hnn hv hs hn hpd hen
 by_cases h1 : n < 1
 ·have q1 : ((n : Int) < 1) = True := eq_true (by omega)
  have q2 : (n < 1) = True := eq_true h1
  have q3 : n = 0 := by omega
  subst q3
  have HE := zI (show mayL l = false by rw [HK.out]; rfl)
  clear h1
  go_enter Tryz.func42, Tryz.ntmps42
  go_wp2
  go_ret
  exact ⟨ret_bool HE.out.symm, Fp.refl _ _⟩
 have q1 : ((n : Int) < 1) = False := eq_false (by omega)
 have q2 : (n < 1) = False := eq_false h1
 have q2b : (n = 0) = False := eq_false (by omega)
 by_cases h8 : 8 < n
 ·have q3 : ((8 : Int) < (n : Int)) = True := eq_true (by omega)
  have q4 : (8 < n) = True := eq_true h8
  have HE := zI (show mayL l = false by rw [HK.out, decide_eq_false (by omega)]; rfl)
  clear h1 h8
  go_enter Tryz.func42, Tryz.ntmps42
  go_wp2
  go_ret
  exact ⟨ret_bool HE.out.symm, Fp.refl _ _⟩
 have q3 : ((8 : Int) < (n : Int)) = False := eq_false (by omega)
 have q4 : (8 < n) = False := eq_false h8
 have HE := zI (show mayL l = al by rw [HK.out, decide_eq_true (by omega)]; rfl)
 clear h1 h8
 go_enter Tryz.func42, Tryz.ntmps42
 go_wp2_with fail
 refine HC.out.mono ?_
 rintro e w1 ⟨rfl, hf⟩
 have F := zI hf
 clear hf
 go_wp2
 go_ret
 exact ⟨ret_bool (by rw [HE.out]; first | done | simp), F.out⟩
theorem wpList_app {P : Program} {w : World} {ops : Array Oper} {rest : List Oper} {o : Oper} {a : Act} {Q : Exit → Act → World → Prop} (hgd : o.guard = none) (s x : Operand) (t u : TypeId)
  (ho : o.op = .call { callee := .builtin .append, args := #[s, x], argTypes := #[t, u] }) (v xv : Value) (hs : a.eval s = v) (hx : a.eval x = xv) (R : Value → World → Prop)
  (hr : ∃ v' w', (Builtin.append_ #[t, u] o.type #[v, xv]).run P w = .ok v' w' ∧ R v' w') (h : ∀ v' w', R v' w' → wpList P ops Q rest (a.put o.dst v') w') : wpList P ops Q (o :: rest) a w := by
 refine wpList_plain hgd fun K hK => ?_
 obtain ⟨v', w', hr, h2⟩ := hr
 unfold Oper.wp execOp
 simp only [ho, resolve, invoke, builtin, Sem.run_bind, Sem.run_pure, Result.andThen_ok, List.map_toArray, List.map_cons, List.map_nil, hs, hx, hr]
 exact hK _ _ (h v' w' h2)
theorem nil_slice (w : World) (a : Addr) (n c : Nat) : (binOp .eql TL (.slice (some a) n c) (.slice none 0 0)).run Tryz.prog w = .ok (.bool false) w :=
 Lib.run_eql_slice_nil w TL TN (some a) n c 0 0 Tryz.underlying22
structure NewN (w : World) (n : Nat) (l : List Nd) (v' : Value) (w' : World) : Prop where
 ex : ∃ G cap, v' = .slice (some ⟨G, 0, none⟩) n cap ∧ Nr w' G cap l ∧ w.heap.size ≤ G ∧ Fp Non w w'
set_option maxHeartbeats 2000000 in
theorem Clone_c (v : Value) (l : List Nd) (w : World) (hv : Ns w v l) (h0 : 0 < l.length) (h5 : l.length ≤ 4000) :
  Calls Tryz.prog 55 #[v] w fun e w' => ∃ G cap, e = .returned (.slice (some ⟨G, 0, none⟩) l.length cap) ∧ Nr w' G cap l ∧ w.heap.size ≤ G ∧ Fp Non w w' := by
 obtain ⟨g, o, cap, rfl, _, _, hgl, hcell⟩ := hv.at h0
 have hown : (w.alloc (.cells #[] TN)).ownsRow w.heap.size TN 5 (.slice (some ⟨w.heap.size, 0, none⟩) 0 0) ([] : List Nd).length (rows []) := World.ownsRow_lit w #[] 0 (Nat.le_refl _) (by unfold maxLen; omega) rfl
 have hap := fun ty => app_nodes (w.alloc (.cells #[] TN)) w.heap.size _ [] l ty g o l.length cap hown rfl (fun i hi => (hcell i hi).keep ((Fp.refl Non w).alloc _) id) (by simp; omega) (by simp) (by simpa using h0)
 have hnil := nil_slice
 obtain ⟨m, hn⟩ : ∃ m, m + 1 = l.length := ⟨l.length - 1, by omega⟩
 have HA := zI hap
 simp only [List.length_nil, Nat.zero_add, List.nil_append, ← hn] at HA
 rw [← hn]
 have hA2 : ∀ ty, ∃ v' w', (Builtin.append_ #[TL, TL] ty #[.slice (some ⟨w.heap.size, 0, none⟩) 0 0, .slice (some ⟨g, o, none⟩) (m + 1) cap]).run Tryz.prog (w.alloc (.cells #[] TN)) = .ok v' w' ∧ NewN w (m + 1) l v' w' := fun ty => by
  obtain ⟨G, cap2, w2, hr, hrow, hlo, hg, _⟩ := HA.out ty
  exact ⟨_, w2, hr, ⟨G, cap2, rfl, hrow, hlo, ((Fp.refl Non w).alloc _).grown hg (fun k hk => .inr (by simp [Value.ownBlock] at hk; omega))⟩⟩
 have HA2 := zI (hA2 TL)
 clear hA2 hap hown hcell hv h0 h5 hn
 go_enter Tryz.func55, Tryz.ntmps55
 go_wp2_with (at_builtin; go_must (refine wpList_app rfl _ _ _ _ rfl _ _ rfl rfl (NewN w (m + 1) l) HA2.out ?_))
 intro u w2 hR
 obtain ⟨G, cap2, rfl, hF⟩ := hR.ex
 have HF := zI hF
 clear hF hR
 go_wp2
 go_ret
 exact ⟨G, cap2, rfl, HF.out⟩
end Go.Proofs.YtphoglepiegeiaaGreatDoor
