/- A text of this proof. -/
import Derived.BigQuiet
import Derived.Deep.QuietTactic
import Derived.Lib.Hide
import Derived.WalkKit
import Derived.WalkLawsBesides
import Derived.WalkSpells
import Derived.Test.YtphoglepiegeiaaGreatDoorProg
import Derived.Test.YtphoglepiegeiaaGreatDoorZAA
namespace Go.Proofs.YtphoglepiegeiaaGreatDoor
set_option linter.unusedSimpArgs false
set_option linter.unusedVariables false
set_option maxRecDepth 20000
namespace Pm
structure Tu where
 dir : Bs
 next : Int
deriving DecidableEq
structure St where
 nodes : List Nd
 turns : List Tu
deriving DecidableEq
structure Pt where
 kind : Int
 dir : Bs
 path : Bs
 data : Bs
 ver : Int
 own : Int
 turns : Bool
deriving DecidableEq
def upB (p : Bs) : Bs := (parent p).getD [47]
def keptAt (k : Int) (p : Bs) : Bs := if k = 4 ∨ k = 9 ∨ k = 10 then p else upB p
def mayP (x : Pt) : Bool :=
 decide (1 ≤ x.kind ∧ x.kind ≤ 10) && (split x.path).isSome && decide (x.dir = keptAt x.kind x.path) && decide (¬ (x.kind = 2 ∧ x.path = [47])) &&
 decide (x.data.length ≤ 256 ∧ -1 ≤ x.ver ∧ x.ver ≤ 281474976710656 ∧ 0 ≤ x.own ∧ x.own ≤ 1099511627776)
def sfit (n : Nd) : Bool :=
 (split n.path).isSome && decide (n.data.length ≤ 256 ∧ n.turn = 0 ∧ ¬ (n.path = [47] ∧ n.own ≠ 0) ∧ 0 ≤ n.ver ∧ n.ver ≤ 281474976710656 ∧ 0 ≤ n.own ∧ n.own ≤ 1099511627776)
def tfit (t : Tu) : Bool := (split t.dir).isSome && decide (1 ≤ t.next ∧ t.next ≤ 10000)
def AscT (l : List Tu) : Prop := ∀ i j (hi : i < l.length) (hj : j < l.length), i < j → lt l[i].dir l[j].dir = true
structure StR (s : St) : Prop where
 fit : ∀ n ∈ s.nodes, sfit n = true
 asc : Asc s.nodes
 tfit : ∀ t ∈ s.turns, tfit t = true
 tasc : AscT s.turns
open Classical in
noncomputable def rightS (s : St) : Bool := decide (StR s)
theorem rightS_iff (s : St) : rightS s = true ↔ StR s := by unfold rightS; simp
theorem rightS_true {s : St} (h : StR s) : rightS s = true := by unfold rightS; simp [h]
theorem rightS_false {s : St} (h : ¬ StR s) : rightS s = false := by unfold rightS; simp [h]
def findT (l : List Tu) (p : Bs) : Option Tu := l.find? (fun t => t.dir == p)
def turnOf (l : List Tu) (p : Bs) : Int := ((findT l p).map Tu.next).getD 0
def placeT (l : List Tu) (p : Bs) : Nat := l.countP (fun t => lt t.dir p)
def insT (l : List Tu) (k : Nat) (x : Tu) : List Tu := l.take k ++ x :: l.drop k
def setT (l : List Tu) (p : Bs) (n : Int) : List Tu :=
 let l1 := if (findT l p).isSome = true then l.eraseIdx (placeT l p) else l
 if n ≠ 0 then insT l1 (placeT l p) ⟨p, n⟩ else l1
def okR : Res := ⟨0, [], [], 0, []⟩
def versionedP (k : Int) : Bool := k == 3 || k == 5 || k == 6
def newPath (s : St) (x : Pt) : Option Bs := if x.turns = true then (numbered (last x.path) (turnOf s.turns x.dir)).bind (join x.dir) else some x.path
def putS (s : St) (x : Pt) : St × Res :=
 match newPath s x with
 | none => (s, .bad 66)
 | some q => if (find s.nodes q).isSome = true then (s, .bad 61) else
   (⟨ins s.nodes (place s.nodes q) ⟨q, x.data, 0, 0, x.own⟩, if x.turns = true then setT s.turns x.dir (turnOf s.turns x.dir + 1) else s.turns⟩, ⟨0, q, [], 0, []⟩)
def cleared (x : Pt) (n : Nd) : Bool := n.own == x.own && parent n.path == some x.path
def doP (s : St) (x : Pt) : St × Res :=
 if x.kind = 2 then putS s x
 else if x.kind = 4 then (if kids s.nodes x.path = [] then (⟨s.nodes, setT s.turns x.path 0⟩, okR) else (s, .bad 64))
 else if x.kind = 9 then (s, ⟨0, [], [], 0, (kids s.nodes x.path).map (fun n => last n.path)⟩)
 else if x.kind = 10 then (⟨s.nodes.filter (fun n => !cleared x n), s.turns⟩, ⟨0, [], [], 0, (s.nodes.filter (cleared x)).map (fun n => last n.path)⟩)
 else match find s.nodes x.path with
  | none => (s, .bad 62)
  | some n => if versionedP x.kind = true ∧ 0 ≤ x.ver ∧ x.ver ≠ n.ver then (s, .bad 63)
   else if x.kind = 1 then (if n.own ≠ 0 then (s, .bad 65) else (s, okR))
   else if x.kind = 3 then (⟨s.nodes.eraseIdx (place s.nodes x.path), s.turns⟩, okR)
   else if x.kind = 5 then (if n.ver = 281474976710656 then (s, .bad 2) else (⟨s.nodes.set (place s.nodes x.path) { n with data := x.data, ver := n.ver + 1 }, s.turns⟩, ⟨0, [], [], n.ver + 1, []⟩))
   else if x.kind = 6 then (s, ⟨0, [], [], n.ver, []⟩)
   else if x.kind = 7 then (s, ⟨0, [], n.data, n.ver, []⟩)
   else (s, okR)
noncomputable def applyP (s : St) (x : Pt) : St × Res := if rightS s && mayP x then doP s x else (⟨[], []⟩, .bad 1)
theorem applyP_no {s : St} {x : Pt} (h : ¬ (rightS s = true ∧ mayP x = true)) : applyP s x = (⟨[], []⟩, .bad 1) := by
 unfold applyP; rw [if_neg]; simpa [Bool.and_eq_true] using h
theorem applyP_yes {s : St} {x : Pt} (h : StR s) (k : mayP x = true) : applyP s x = doP s x := by
 unfold applyP; rw [if_pos]; rw [rightS_true h, k]; rfl
theorem doP_asks {s : St} {x : Pt} (h : x.kind = 1 ∨ x.kind = 6 ∨ x.kind = 7 ∨ x.kind = 8 ∨ x.kind = 9) : (doP s x).1 = s := by
 unfold doP
 rcases h with h | h | h | h | h <;> simp only [h]
 ·cases find s.nodes x.path with
  | none => simp
  | some n => simp [versionedP]; split <;> rfl
 ·cases find s.nodes x.path with
  | none => simp
  | some n => simp only [versionedP]; simp; split <;> rfl
 ·cases find s.nodes x.path with
  | none => simp
  | some n => simp [versionedP]
 ·cases find s.nodes x.path with
  | none => simp
  | some n => simp [versionedP]
 ·simp
theorem doP_err (s : St) (x : Pt) : (doP s x).2.err ≠ 1 ∧ ((doP s x).2.err ≠ 0 → (doP s x).1 = s ∧ (doP s x).2 = .bad (doP s x).2.err) := by
 have bad : ∀ e : Int, e ≠ 1 → ((s, Res.bad e).2.err ≠ 1 ∧ ((s, Res.bad e).2.err ≠ 0 → (s, Res.bad e).1 = s ∧ (s, Res.bad e).2 = .bad (s, Res.bad e).2.err)) := fun e h => ⟨h, fun _ => ⟨rfl, rfl⟩⟩
 have good : ∀ (t : St) (r : Res), r.err = 0 → ((t, r).2.err ≠ 1 ∧ ((t, r).2.err ≠ 0 → (t, r).1 = s ∧ (t, r).2 = .bad (t, r).2.err)) := fun t r h => ⟨by rw [show (t, r).2 = r from rfl, h]; decide, fun k => absurd h k⟩
 unfold doP
 split
 ·unfold putS
  split
  ·exact bad _ (by decide)
  ·split
   ·exact bad _ (by decide)
   ·exact good _ _ rfl
 split
 ·split
  ·exact good _ _ rfl
  ·exact bad _ (by decide)
 split
 ·exact good _ _ rfl
 split
 ·exact good _ _ rfl
 split
 ·exact bad _ (by decide)
 split
 ·exact bad _ (by decide)
 split
 ·split
  ·exact bad _ (by decide)
  ·exact good _ _ rfl
 split
 ·exact good _ _ rfl
 split
 ·split
  ·exact bad _ (by decide)
  ·exact good _ _ rfl
 split
 ·exact good _ _ rfl
 split
 ·exact good _ _ rfl
 ·exact good _ _ rfl
def partsOf (o : Opn) : List Pt :=
 if may o = true then
  (if o.kind = 1 then [⟨1, upB (upB o.path), upB o.path, [], 0, 0, false⟩, ⟨2, upB o.path, o.path, o.data, 0, o.own, o.turns⟩]
  else if o.kind = 2 then [⟨3, upB o.path, o.path, [], o.ver, 0, false⟩, ⟨4, o.path, o.path, [], 0, 0, false⟩]
  else if o.kind = 3 then [⟨5, upB o.path, o.path, o.data, o.ver, 0, false⟩]
  else if o.kind = 4 then [⟨6, upB o.path, o.path, [], o.ver, 0, false⟩]
  else if o.kind = 5 then [⟨7, upB o.path, o.path, [], 0, 0, false⟩]
  else if o.kind = 6 then [⟨8, upB o.path, o.path, [], 0, 0, false⟩, ⟨9, o.path, o.path, [], 0, 0, false⟩]
  else [⟨8, upB o.path, o.path, [], 0, 0, false⟩, ⟨10, o.path, o.path, [], 0, o.own, false⟩])
 else []
theorem partsOf_len (o : Opn) : decide (0 < (partsOf o).length) = may o := by
 unfold partsOf
 cases may o <;> simp
 split <;> (try simp)
 split <;> (try simp)
 split <;> (try simp)
 split <;> (try simp)
 split <;> (try simp)
 split <;> simp
theorem upB_ok (p : Bs) : (split (upB p)).isSome = true := by
 unfold upB
 cases h : parent p with
 | none => rfl
 | some u =>
  simp only [Option.getD_some]
  obtain ⟨ps, hs, hj, _⟩ := parent_some h
  unfold join at hj
  cases hu : split u with
  | none => rw [hu] at hj; cases hj
  | some _ => rfl
end Pm
end Go.Proofs.YtphoglepiegeiaaGreatDoor
namespace Go.Proofs.YtphoglepiegeiaaGreatDoor
set_option maxRecDepth 20000
namespace Pm
def tn (t : Tu) : Nd := ⟨t.dir, [], 0, t.next, 0⟩
theorem tn_inj {a b : Tu} (h : tn a = tn b) : a = b := by
 obtain ⟨_, _⟩ := a; obtain ⟨_, _⟩ := b
 unfold tn at h; injection h with h1 _ _ h2 _; subst h1 h2; rfl
theorem ascT_iff {l : List Tu} : AscT l ↔ Asc (l.map tn) := by
 constructor
 ·intro h i j hi hj hij
  simp only [List.length_map] at hi hj
  simp only [List.getElem_map]
  exact h i j hi hj hij
 ·intro h i j hi hj hij
  have := h i j (by simpa using hi) (by simpa using hj) hij
  simp only [List.getElem_map] at this
  exact this
theorem find_tn (l : List Tu) (p : Bs) : find (l.map tn) p = (findT l p).map tn := by
 unfold find findT
 rw [List.find?_map]; rfl
theorem place_tn (l : List Tu) (p : Bs) : place (l.map tn) p = placeT l p := by
 unfold place placeT
 rw [List.countP_map]; rfl
theorem ins_tn (l : List Tu) (k : Nat) (x : Tu) : (insT l k x).map tn = ins (l.map tn) k (tn x) := by
 unfold insT ins
 rw [List.map_append, List.map_cons, List.map_take, List.map_drop]
theorem erase_tn : ∀ (l : List Tu) (k : Nat), (l.eraseIdx k).map tn = (l.map tn).eraseIdx k
 | [], k => by simp
 | a :: l, 0 => rfl
 | a :: l, k + 1 => by rw [List.eraseIdx_cons_succ, List.map_cons, List.map_cons, List.eraseIdx_cons_succ, erase_tn l k]
theorem map_tn_inj : ∀ {a b : List Tu}, a.map tn = b.map tn → a = b
 | [], [], _ => rfl
 | [], _ :: _, h => by cases h
 | _ :: _, [], h => by cases h
 | x :: a, y :: b, h => by
  rw [List.map_cons, List.map_cons] at h
  injection h with h1 h2
  rw [tn_inj h1, map_tn_inj h2]
theorem findT_none {l : List Tu} {p : Bs} : findT l p = none ↔ ∀ t ∈ l, t.dir ≠ p := by
 unfold findT; rw [List.find?_eq_none]; simp
theorem findT_mem {l : List Tu} {p : Bs} {t : Tu} (h : findT l p = some t) : t ∈ l ∧ t.dir = p := by
 unfold findT at h
 exact ⟨List.mem_of_find?_eq_some h, by simpa using List.find?_some h⟩
theorem eraseT {l : List Tu} (h : AscT l) {p : Bs} {t : Tu} (ht : findT l p = some t) : l.eraseIdx (placeT l p) = l.filter (fun t => t.dir != p) := by
 have hA := ascT_iff.1 h
 have hf : find (l.map tn) p = some (tn t) := by rw [find_tn, ht]; rfl
 have e := filter_erase hA hf
 rw [place_tn, ← erase_tn, List.filter_map] at e
 exact (map_tn_inj e)
theorem ascT_filter {l : List Tu} (h : AscT l) (q : Tu → Bool) : AscT (l.filter q) := by
 have : l.Pairwise (fun a b => lt a.dir b.dir = true) := by rw [List.pairwise_iff_getElem]; exact h
 have h2 := this.filter q
 rw [List.pairwise_iff_getElem] at h2; exact h2
theorem placeT_filter {l : List Tu} (p : Bs) : placeT (l.filter (fun t => t.dir != p)) p = placeT l p := by
 unfold placeT
 rw [List.countP_filter]
 apply List.countP_congr
 intro t _
 simp only [Bool.and_eq_true, bne_iff_ne]
 constructor
 ·exact fun k => k.1
 ·exact fun k => ⟨k, lt_ne k⟩
theorem ascT_ins {l : List Tu} (h : AscT l) {p : Bs} (n : Int) (hn : findT l p = none) : AscT (insT l (placeT l p) ⟨p, n⟩) := by
 rw [ascT_iff, ins_tn, ← place_tn]
 exact (ascT_iff.1 h).ins (tn ⟨p, n⟩) (by rw [show (tn ⟨p, n⟩).path = p from rfl, find_tn, hn]; rfl)
theorem mem_insT {l : List Tu} {k : Nat} {x y : Tu} (h : y ∈ insT l k x) : y = x ∨ y ∈ l := by
 unfold insT at h
 rw [List.mem_append, List.mem_cons] at h
 rcases h with h | h | h
 ·exact .inr (List.mem_of_mem_take h)
 ·exact .inl h
 ·exact .inr (List.mem_of_mem_drop h)
theorem setT_eq {l : List Tu} (h : AscT l) (p : Bs) (n : Int) : setT l p n = if n ≠ 0 then insT (l.filter (fun t => t.dir != p)) (placeT (l.filter (fun t => t.dir != p)) p) ⟨p, n⟩ else l.filter (fun t => t.dir != p) := by
 unfold setT
 rw [placeT_filter]
 cases hf : findT l p with
 | some t => simp only [Option.isSome_some, if_true]; rw [eraseT h hf]
 | none =>
  have : l.filter (fun t => t.dir != p) = l := by rw [List.filter_eq_self]; intro t ht; simpa using findT_none.1 hf t ht
  simp only [Option.isSome_none, Bool.false_eq_true, if_false]; rw [this]
theorem setT_right {l : List Tu} (h : AscT l) (hf : ∀ t ∈ l, tfit t = true) {p : Bs} {n : Int} (hp : (split p).isSome = true) (h0 : 0 ≤ n) (h1 : n ≤ 10000) :
  AscT (setT l p n) ∧ ∀ t ∈ setT l p n, tfit t = true := by
 rw [setT_eq h]
 have hA := ascT_filter h (fun t => t.dir != p)
 have hn : findT (l.filter (fun t => t.dir != p)) p = none := by
  rw [findT_none]; intro t ht; have := (List.mem_filter.1 ht).2; simpa using this
 split
 ·rename_i hne
  refine ⟨ascT_ins hA n hn, fun t ht => ?_⟩
  rcases mem_insT ht with rfl | ht
  ·unfold tfit; simp only [hp, Bool.true_and, decide_eq_true_eq]; omega
  ·exact hf t (List.mem_filter.1 ht).1
 ·exact ⟨hA, fun t ht => hf t (List.mem_filter.1 ht).1⟩
theorem turnOf_bounds {l : List Tu} (hf : ∀ t ∈ l, tfit t = true) (p : Bs) : 0 ≤ turnOf l p ∧ turnOf l p ≤ 10000 := by
 unfold turnOf
 cases h : findT l p with
 | none => simp
 | some t =>
  have := hf t (findT_mem h).1
  unfold tfit at this
  simp only [Bool.and_eq_true, decide_eq_true_eq] at this
  simp only [Option.map_some, Option.getD_some]; omega
theorem sfit_iff (n : Nd) : sfit n = true ↔ (split n.path).isSome = true ∧ n.data.length ≤ 256 ∧ n.turn = 0 ∧ ¬ (n.path = [47] ∧ n.own ≠ 0) ∧ 0 ≤ n.ver ∧ n.ver ≤ 281474976710656 ∧ 0 ≤ n.own ∧ n.own ≤ 1099511627776 := by
 unfold sfit; rw [Bool.and_eq_true, decide_eq_true_eq]
theorem mayP_iff (x : Pt) : mayP x = true ↔ (1 ≤ x.kind ∧ x.kind ≤ 10) ∧ (split x.path).isSome = true ∧ x.dir = keptAt x.kind x.path ∧ ¬ (x.kind = 2 ∧ x.path = [47]) ∧ x.data.length ≤ 256 ∧ -1 ≤ x.ver ∧ x.ver ≤ 281474976710656 ∧ 0 ≤ x.own ∧ x.own ≤ 1099511627776 := by
 unfold mayP; simp only [Bool.and_eq_true, decide_eq_true_eq, and_assoc]
end Pm
end Go.Proofs.YtphoglepiegeiaaGreatDoor
namespace Go.Proofs.YtphoglepiegeiaaGreatDoor
set_option maxRecDepth 20000
namespace Pm
theorem newPath_some {s : St} {x : Pt} {q : Bs} (hm : mayP x = true) (hk : x.kind = 2) (h : newPath s x = some q) :
  (split q).isSome = true ∧ q ≠ [47] ∧ parent q = some x.dir ∧ (x.turns = true → turnOf s.turns x.dir ≤ 9999) := by
 obtain ⟨_, hp, hd, hr, _⟩ := (mayP_iff x).1 hm
 have hdir : x.dir = upB x.path := by rw [hd, hk]; rfl
 unfold newPath at h
 split at h
 ·cases hn : numbered (last x.path) (turnOf s.turns x.dir) with
  | none => rw [hn] at h; cases h
  | some y =>
   rw [hn] at h
   obtain ⟨cs, h1, h2, _⟩ := join_some (show join x.dir y = some q from h)
   exact ⟨by rw [h1]; rfl, parent_ne_root h2, h2, fun _ => (numbered_turn hn).2⟩
 ·rename_i ht
  obtain rfl := Option.some.inj h
  have hne : x.path ≠ [47] := fun e => hr ⟨hk, e⟩
  refine ⟨hp, hne, ?_, fun k => absurd k ht⟩
  cases hpp : parent x.path with
  | none => have := (parent_none hpp).1; rw [hp] at this; exact absurd (by simpa using this.symm) hne
  | some u => rw [hdir]; unfold upB; rw [hpp]; rfl
theorem mayP_mk {k : Int} {d q data : Bs} {ver own : Int} {t : Bool} (hk : 1 ≤ k ∧ k ≤ 10) (hs : (split q).isSome = true) (hd : d = keptAt k q) (hr : ¬ (k = 2 ∧ q = [47]))
  (h1 : data.length ≤ 256) (h2 : -1 ≤ ver) (h3 : ver ≤ 281474976710656) (h4 : 0 ≤ own) (h5 : own ≤ 1099511627776) : mayP ⟨k, d, q, data, ver, own, t⟩ = true :=
 (mayP_iff _).2 ⟨hk, hs, hd, hr, h1, h2, h3, h4, h5⟩
theorem StR.put {s : St} (h : StR s) {x : Pt} (hm : mayP x = true) (hk : x.kind = 2) : StR (putS s x).1 := by
 obtain ⟨_, hp, hd, hr, hl⟩ := (mayP_iff x).1 hm
 unfold putS
 split
 ·exact h
 ·rename_i q hq
  obtain ⟨h1, h2, h3, h4⟩ := newPath_some hm hk hq
  split
  ·exact h
  ·rename_i hf
   have hn : find s.nodes q = none := by simpa using hf
   have hdv : (split x.dir).isSome = true := by rw [hd, hk]; exact upB_ok _
   have htb := turnOf_bounds h.tfit x.dir
   have hT : AscT (if x.turns = true then setT s.turns x.dir (turnOf s.turns x.dir + 1) else s.turns) ∧ ∀ t ∈ (if x.turns = true then setT s.turns x.dir (turnOf s.turns x.dir + 1) else s.turns), Pm.tfit t = true := by
    split
    ·rename_i ht; exact setT_right h.tasc h.tfit hdv (by omega) (by have := h4 ht; omega)
    ·exact ⟨h.tasc, h.tfit⟩
   refine ⟨fun n hn' => ?_, ?_, hT.2, hT.1⟩
   ·rcases mem_ins.1 hn' with rfl | k
    ·rw [sfit_iff]; exact ⟨h1, hl.1, rfl, fun k => h2 k.1, Int.le_refl 0, (show (0 : Int) ≤ 281474976710656 by decide), hl.2.2.2.1, hl.2.2.2.2⟩
    ·exact h.fit n k
   ·exact h.asc.ins ⟨q, x.data, 0, 0, x.own⟩ hn
theorem mem_erase {l : List Nd} {k : Nat} {n : Nd} (h : n ∈ l.eraseIdx k) : n ∈ l := List.mem_of_mem_eraseIdx h
theorem StR.doP {s : St} (h : StR s) {x : Pt} (hm : mayP x = true) : StR (Pm.doP s x).1 := by
 obtain ⟨hk, hp, hd, hr, hl⟩ := (mayP_iff x).1 hm
 unfold Pm.doP
 split
 ·rename_i k; exact h.put hm k
 split
 ·split
  ·have := setT_right h.tasc h.tfit hp (Int.le_refl 0) (by decide)
   exact ⟨h.fit, h.asc, this.2, this.1⟩
  ·exact h
 split
 ·exact h
 split
 ·exact ⟨fun n hn => h.fit n (List.mem_filter.1 hn).1, h.asc.filter _, h.tfit, h.tasc⟩
 split
 ·exact h
 ·rename_i n hf
  split
  ·exact h
  split
  ·split <;> exact h
  split
  ·refine ⟨fun m hm => h.fit m (mem_erase hm), ?_, h.tfit, h.tasc⟩
   show Asc (s.nodes.eraseIdx (place s.nodes x.path))
   rw [filter_erase h.asc hf]; exact h.asc.filter _
  split
  ·split
   ·exact h
   ·rename_i hv
    obtain ⟨hk2, e⟩ := find_at h.asc hf
    have hn := (sfit_iff n).1 (h.fit n (find_mem hf).1)
    refine ⟨fun m hm => ?_, h.asc.set hk2 _ (by rw [e]), h.tfit, h.tasc⟩
    rcases List.mem_or_eq_of_mem_set hm with k | rfl
    ·exact h.fit m k
    ·rw [sfit_iff]
     obtain ⟨a1, a2, a3, a4, a5, a6, a7, a8⟩ := hn
     exact ⟨a1, hl.1, a3, a4, by simp only; omega, by simp only; omega, a7, a8⟩
  split
  ·exact h
  split
  ·exact h
  ·exact h
theorem puts {s : St} (h : StR s) {x : Pt} (hm : mayP x = true) (hk : x.kind = 2) (he : (putS s x).2.err = 0) :
  ∃ a q, putS s x = (a, ⟨0, q, [], 0, []⟩) ∧ StR a ∧ q.length ≤ 100 ∧ a.nodes.length = s.nodes.length + 1 ∧
   applyP a ⟨7, x.dir, q, [], 0, 0, false⟩ = (a, ⟨0, [], x.data, 0, []⟩) ∧ applyP a ⟨2, x.dir, q, [], 0, 0, false⟩ = (a, .bad 61) ∧
   ∃ c, applyP a ⟨3, x.dir, q, [], 0, 0, false⟩ = (c, okR) ∧ c.nodes = s.nodes := by
 have hR := h.put hm hk
 unfold putS at he hR ⊢
 cases hq : newPath s x with
 | none => rw [hq] at he; simp [Res.bad] at he
 | some q =>
  rw [hq] at he hR
  simp only at he hR ⊢
  by_cases hf : (find s.nodes q).isSome = true
  ·rw [if_pos hf] at he; simp [Res.bad] at he
  ·rw [if_neg hf] at hR ⊢
   obtain ⟨h1, h2, h3, _⟩ := newPath_some hm hk hq
   have hn : find s.nodes q = none := by simpa using hf
   obtain ⟨_, _, _, _, _, hlen, _⟩ := parent_some h3
   have hup : upB q = x.dir := by unfold upB; rw [h3]; rfl
   generalize (if x.turns = true then setT s.turns x.dir (turnOf s.turns x.dir + 1) else s.turns) = T at hR ⊢
   have hfa : find (ins s.nodes (place s.nodes q) ⟨q, x.data, 0, 0, x.own⟩) q = some ⟨q, x.data, 0, 0, x.own⟩ := by
    have := find_ins h.asc ⟨q, x.data, 0, 0, x.own⟩ hn q
    simpa using this
   have m7 : mayP ⟨7, x.dir, q, [], 0, 0, false⟩ = true := mayP_mk (by decide) (h1) (by rw [← hup]; rfl) (fun k => by have := k.1; simp at this) (by simp) (by decide) (by decide) (by decide) (by decide)
   have m2 : mayP ⟨2, x.dir, q, [], 0, 0, false⟩ = true := mayP_mk (by decide) (h1) (by rw [← hup]; rfl) (fun k => h2 k.2) (by simp) (by decide) (by decide) (by decide) (by decide)
   have m3 : mayP ⟨3, x.dir, q, [], 0, 0, false⟩ = true := mayP_mk (by decide) (h1) (by rw [← hup]; rfl) (fun k => by have := k.1; simp at this) (by simp) (by decide) (by decide) (by decide) (by decide)
   refine ⟨_, q, rfl, hR, hlen, ins_length _ _ _, ?_, ?_, ⟨s.nodes, T⟩, ?_, rfl⟩
   ·rw [applyP_yes hR m7]
    unfold Pm.doP
    simp [hfa, versionedP]
   ·rw [applyP_yes hR m2]
    unfold Pm.doP putS newPath
    simp [hfa]
   ·rw [applyP_yes hR m3]
    have hpl : place (ins s.nodes (place s.nodes q) ⟨q, x.data, 0, 0, x.own⟩) q = place s.nodes q := by
     have hk := place_le s.nodes q
     have hk2 : place s.nodes q < (ins s.nodes (place s.nodes q) ⟨q, x.data, 0, 0, x.own⟩).length := by rw [ins_length]; omega
     have := place_at hR.asc hk2
     have e : ((ins s.nodes (place s.nodes q) ⟨q, x.data, 0, 0, x.own⟩)[place s.nodes q]).path = q := by rw [ins_at _ _ hk _ hk2]
     rw [e] at this; exact this
    have he2 := erase_ins s.nodes (place s.nodes q) (place_le _ _) ⟨q, x.data, 0, 0, x.own⟩
    unfold Pm.doP
    simp [hfa, versionedP, hpl, he2]
theorem partsOf_may (o : Opn) : ∀ x ∈ partsOf o, mayP x = true ∧ (x.dir = x.path ∨ x.dir = upB x.path) ∧ x.path.length ≤ 100 := by
 intro x hx
 unfold partsOf at hx
 split at hx
 ·rename_i hm
  have hs := may_split hm
  have ho := may_own hm
  have hv : -1 ≤ o.ver ∧ o.ver ≤ 281474976710656 := by
   have hk := may_kind hm
   unfold may at hm
   simp only [Bool.and_eq_true] at hm
   have := hm.2
   rcases hk with k | k | k | k | k | k | k <;> simp [k] at this <;> omega
  have hlen : o.path.length ≤ 100 := by
   obtain ⟨ps, hps⟩ := Option.isSome_iff_exists.1 hs
   obtain ⟨hP, e⟩ := (split_iff _ _).1 hps
   rw [← e]; exact joinP_len hP
  have hul : ∀ p : Bs, p.length ≤ 100 → (upB p).length ≤ 100 := fun p h => by
   unfold upB
   cases hp : parent p with
   | none => simp
   | some u => obtain ⟨_, _, _, h1, _⟩ := parent_some hp; exact h1
  have hus := upB_ok o.path
  split at hx
  ·rename_i k
   obtain ⟨u, hu⟩ := may_parent hm (.inl k)
   simp only [List.mem_cons, List.not_mem_nil, or_false] at hx
   rcases hx with rfl | rfl
   ·exact ⟨mayP_mk (by decide) (hus) (rfl) (fun k => by have := k.1; simp at this) (by simp) (by decide) (by decide) (by decide) (by decide), .inr rfl, hul _ hlen⟩
   ·exact ⟨mayP_mk (by decide) (hs) (rfl) (fun k => parent_ne_root hu k.2) (ho.1) (by decide) (by decide) (ho.2.1) (ho.2.2), .inr rfl, hlen⟩
  split at hx
  ·simp only [List.mem_cons, List.not_mem_nil, or_false] at hx
   rcases hx with rfl | rfl
   ·exact ⟨mayP_mk (by decide) (hs) (rfl) (fun k => by have := k.1; simp at this) (by simp) (hv.1) (hv.2) (by decide) (by decide), .inr rfl, hlen⟩
   ·exact ⟨mayP_mk (by decide) (hs) (rfl) (fun k => by have := k.1; simp at this) (by simp) (by decide) (by decide) (by decide) (by decide), .inl rfl, hlen⟩
  split at hx
  ·simp only [List.mem_cons, List.not_mem_nil, or_false] at hx
   subst hx
   exact ⟨mayP_mk (by decide) (hs) (rfl) (fun k => by have := k.1; simp at this) (ho.1) (hv.1) (hv.2) (by decide) (by decide), .inr rfl, hlen⟩
  split at hx
  ·simp only [List.mem_cons, List.not_mem_nil, or_false] at hx
   subst hx
   exact ⟨mayP_mk (by decide) (hs) (rfl) (fun k => by have := k.1; simp at this) (by simp) (hv.1) (hv.2) (by decide) (by decide), .inr rfl, hlen⟩
  split at hx
  ·simp only [List.mem_cons, List.not_mem_nil, or_false] at hx
   subst hx
   exact ⟨mayP_mk (by decide) (hs) (rfl) (fun k => by have := k.1; simp at this) (by simp) (by decide) (by decide) (by decide) (by decide), .inr rfl, hlen⟩
  split at hx
  ·simp only [List.mem_cons, List.not_mem_nil, or_false] at hx
   rcases hx with rfl | rfl
   ·exact ⟨mayP_mk (by decide) (hs) (rfl) (fun k => by have := k.1; simp at this) (by simp) (by decide) (by decide) (by decide) (by decide), .inr rfl, hlen⟩
   ·exact ⟨mayP_mk (by decide) (hs) (rfl) (fun k => by have := k.1; simp at this) (by simp) (by decide) (by decide) (by decide) (by decide), .inl rfl, hlen⟩
  ·simp only [List.mem_cons, List.not_mem_nil, or_false] at hx
   rcases hx with rfl | rfl
   ·exact ⟨mayP_mk (by decide) (hs) (rfl) (fun k => by have := k.1; simp at this) (by simp) (by decide) (by decide) (by decide) (by decide), .inr rfl, hlen⟩
   ·exact ⟨mayP_mk (by decide) (hs) (rfl) (fun k => by have := k.1; simp at this) (by simp) (by decide) (by decide) (ho.2.1) (ho.2.2), .inl rfl, hlen⟩
 ·simp at hx
theorem mayP_dir {x : Pt} (h : mayP x = true) (d : Bs) (k : mayP { x with dir := d } = true) : d = x.dir := by
 obtain ⟨_, _, h1, _⟩ := (mayP_iff _).1 h
 obtain ⟨_, _, h2, _⟩ := (mayP_iff _).1 k
 rw [h1]; exact h2
end Pm
end Go.Proofs.YtphoglepiegeiaaGreatDoor
namespace Go.Proofs.YtphoglepiegeiaaGreatDoor
set_option maxRecDepth 20000
namespace Pm
def kn (n : Nd) : Nd := { n with turn := 0 }
def turnsOf (l : List Nd) : List Tu := (l.filter (fun n => n.turn != 0)).map (fun n => ⟨n.path, n.turn⟩)
def keep (l : List Nd) : St := ⟨l.map kn, turnsOf l⟩
theorem kn_path (n : Nd) : (kn n).path = n.path := rfl
theorem Asc.kn {l : List Nd} (h : Asc l) : Asc (l.map kn) := by
 intro i j hi hj hij
 simp only [List.length_map] at hi hj
 simp only [List.getElem_map]
 exact h i j hi hj hij
theorem find_kn (l : List Nd) (p : Bs) : find (l.map kn) p = (find l p).map kn := by
 unfold find; rw [List.find?_map]; rfl
theorem asc_ext : ∀ {a b : List Nd}, Asc a → Asc b → (∀ n, n ∈ a ↔ n ∈ b) → a = b := by
 intro a
 induction a with
 | nil =>
  intro b _ _ h
  cases b with
  | nil => rfl
  | cons y b => have := (h y).2 (List.mem_cons_self ..); simp at this
 | cons x a ih =>
  intro b ha hb h
  cases b with
  | nil => have := (h x).1 (List.mem_cons_self ..); simp at this
  | cons y b =>
   have hxy : x = y := by
    have h1 : x ∈ y :: b := (h x).1 (List.mem_cons_self ..)
    have h2 : y ∈ x :: a := (h y).2 (List.mem_cons_self ..)
    rcases List.mem_cons.1 h1 with e | k1
    ·exact e
    rcases List.mem_cons.1 h2 with e | k2
    ·exact e.symm
    have l1 := hb.head x k1
    have l2 := ha.head y k2
    rw [lt_asymm l1] at l2; cases l2
   subst hxy
   congr 1
   refine ih ha.tail hb.tail (fun n => ⟨fun k => ?_, fun k => ?_⟩)
   ·have := (h n).1 (List.mem_cons_of_mem _ k)
    rcases List.mem_cons.1 this with rfl | e
    ·have := ha.head n k; rw [lt_irrefl] at this; cases this
    ·exact e
   ·have := (h n).2 (List.mem_cons_of_mem _ k)
    rcases List.mem_cons.1 this with rfl | e
    ·have := hb.head n k; rw [lt_irrefl] at this; cases this
    ·exact e
theorem ascT_ext {a b : List Tu} (ha : AscT a) (hb : AscT b) (h : ∀ t, t ∈ a ↔ t ∈ b) : a = b := by
 apply map_tn_inj
 refine asc_ext (ascT_iff.1 ha) (ascT_iff.1 hb) (fun n => ?_)
 rw [List.mem_map, List.mem_map]
 exact ⟨fun ⟨t, k, e⟩ => ⟨t, (h t).1 k, e⟩, fun ⟨t, k, e⟩ => ⟨t, (h t).2 k, e⟩⟩
theorem mem_turnsOf {l : List Nd} {t : Tu} : t ∈ turnsOf l ↔ ∃ n ∈ l, n.path = t.dir ∧ n.turn = t.next ∧ n.turn ≠ 0 := by
 unfold turnsOf
 rw [List.mem_map]
 constructor
 ·rintro ⟨n, hn, rfl⟩
  obtain ⟨h1, h2⟩ := List.mem_filter.1 hn
  exact ⟨n, h1, rfl, rfl, by simpa using h2⟩
 ·rintro ⟨n, h1, h2, h3, h4⟩
  refine ⟨n, List.mem_filter.2 ⟨h1, by simpa using h4⟩, ?_⟩
  obtain ⟨d, x⟩ := t
  simp only at h2 h3
  rw [h2, h3]
theorem Asc.turnsOf {l : List Nd} (h : Asc l) : AscT (turnsOf l) := by
 rw [ascT_iff]
 unfold Pm.turnsOf
 rw [List.map_map]
 have h2 := h.filter (fun n => n.turn != 0)
 intro i j hi hj hij
 simp only [List.length_map] at hi hj
 simp only [List.getElem_map]
 exact h2 i j hi hj hij
theorem mem_setT {l : List Tu} (h : AscT l) (p : Bs) (n : Int) (t : Tu) : t ∈ setT l p n ↔ (t.dir ≠ p ∧ t ∈ l) ∨ (n ≠ 0 ∧ t = ⟨p, n⟩) := by
 rw [setT_eq h]
 have hm : ∀ k, t ∈ insT (l.filter (fun t => t.dir != p)) k ⟨p, n⟩ ↔ t = ⟨p, n⟩ ∨ t ∈ l.filter (fun t => t.dir != p) := by
  intro k
  refine ⟨mem_insT, fun h => ?_⟩
  unfold insT
  rw [List.mem_append, List.mem_cons]
  rcases h with h | h
  ·exact .inr (.inl h)
  ·rw [← List.take_append_drop k (l.filter _), List.mem_append] at h
   rcases h with h | h
   ·exact .inl h
   ·exact .inr (.inr h)
 have hf : t ∈ l.filter (fun t => t.dir != p) ↔ t.dir ≠ p ∧ t ∈ l := by
  rw [List.mem_filter]; simp [and_comm]
 split
 ·rename_i h0
  rw [hm, hf]
  exact ⟨fun k => k.elim (fun e => .inr ⟨h0, e⟩) .inl, fun k => k.elim .inr (fun e => .inl e.2)⟩
 ·rename_i h0
  rw [hf]
  exact ⟨.inl, fun k => k.elim id (fun e => absurd e.1 h0)⟩
theorem ascT_setT {l : List Tu} (h : AscT l) (p : Bs) (n : Int) : AscT (setT l p n) := by
 rw [setT_eq h]
 have hA := ascT_filter h (fun t => t.dir != p)
 split
 ·exact ascT_ins hA n (by rw [findT_none]; intro t ht; have := (List.mem_filter.1 ht).2; simpa using this)
 ·exact hA
theorem setT_turnsOf {l : List Nd} (h : Asc l) {p : Bs} {x : Nd} (hx : find l p = some x) (t : Int) : setT (turnsOf l) p t = turnsOf (l.set (place l p) { x with turn := t }) := by
 obtain ⟨hk, e⟩ := find_at h hx
 obtain ⟨hxm, hxp⟩ := find_mem hx
 have hA : Asc (l.set (place l p) { x with turn := t }) := h.set hk _ (by rw [e])
 refine ascT_ext (ascT_setT h.turnsOf p t) hA.turnsOf (fun s => ?_)
 rw [mem_setT h.turnsOf, mem_turnsOf, mem_turnsOf]
 have hfs := fun q => find_set h hk { x with turn := t } (by rw [e]) q
 constructor
 ·rintro (⟨h1, n, h2, h3, h4, h5⟩ | ⟨h1, rfl⟩)
  ·refine ⟨n, ?_, h3, h4, h5⟩
   have := hfs n.path
   rw [if_neg (fun k => h1 (by rw [← h3, k]; exact hxp)), find_of h h2] at this
   exact (find_mem this).1
  ·exact ⟨{ x with turn := t }, List.mem_set hk _, hxp, rfl, h1⟩
 ·rintro ⟨n, h2, h3, h4, h5⟩
  have hn := find_of hA h2
  rw [hfs] at hn
  by_cases hp : n.path = x.path
  ·rw [if_pos hp] at hn
   obtain rfl := (Option.some.inj hn).symm
   refine .inr ⟨fun k => h5 k, ?_⟩
   obtain ⟨d, y⟩ := s
   simp only at h3 h4
   rw [← h3, ← h4, hxp]
  ·rw [if_neg hp] at hn
   exact .inl ⟨fun k => hp (by rw [hxp, ← k, h3]), n, (find_mem hn).1, h3, h4, h5⟩
theorem kn_set (l : List Nd) (i : Nat) (y : Nd) : (l.set i y).map kn = (l.map kn).set i (kn y) := List.map_set ..
theorem set_same {l : List Nd} {i : Nat} {x : Nd} (hi : i < l.length) (e : l[i] = x) : l.set i x = l := by rw [← e]; exact List.set_getElem_self hi
theorem Tr.turnB {l : List Nd} (h : Tr l) {n : Nd} (hn : n ∈ l) : 0 ≤ n.turn ∧ n.turn ≤ 10000 := by
 have := (fits_iff n).1 (h.fit n hn); omega
theorem Tr.store {l : List Nd} (h : Tr l) : StR (keep l) := by
 refine ⟨fun n hn => ?_, h.asc.kn, fun t ht => ?_, h.asc.turnsOf⟩
 ·obtain ⟨m, hm, rfl⟩ := List.mem_map.1 hn
  have hf := (fits_iff m).1 (h.fit m hm)
  obtain ⟨ps, hs⟩ := h.valid hm
  rw [sfit_iff]
  refine ⟨by show (split m.path).isSome = true; rw [hs]; rfl, hf.1, rfl, fun k => ?_, hf.2.1, hf.2.2.1, hf.2.2.2.2.2.1, hf.2.2.2.2.2.2.1⟩
  obtain ⟨r, hr, h0⟩ := h.root
  have := find_of h.asc hm
  rw [show m.path = [47] from k.1, hr] at this
  rw [Option.some.inj this] at h0
  exact k.2 h0
 ·obtain ⟨m, hm, h1, h2, h3⟩ := mem_turnsOf.1 ht
  obtain ⟨ps, hs⟩ := h.valid hm
  have hb := h.turnB hm
  unfold Pm.tfit
  rw [← h1, ← h2, hs]
  simp only [Option.isSome_some, Bool.true_and, decide_eq_true_eq]; omega
inductive Runs (s : St) (ps : List Pt) : Nat → St → List Res → Prop where
 | zero : Runs s ps 0 s []
 | succ {k : Nat} {now x : St} {rs : List Res} {r : Res} (h : Runs s ps k now rs) (hk : k < ps.length) (ha : applyP now ps[k] = (x, r)) (h0 : r.err = 0) : Runs s ps (k + 1) x (rs ++ [r])
theorem Runs.len {s : St} {ps : List Pt} {k : Nat} {a : St} {r : List Res} (h : Runs s ps k a r) : r.length = k := by
 induction h with
 | zero => rfl
 | succ h hk ha h0 ih => rw [List.length_append, ih]; rfl
end Pm
end Go.Proofs.YtphoglepiegeiaaGreatDoor
namespace Go.Proofs.YtphoglepiegeiaaGreatDoor
set_option maxRecDepth 20000
set_option linter.unusedVariables false
namespace Pm
def AscW (l : List Nd) : Prop := ∀ i j (hi : i < l.length) (hj : j < l.length), i < j → lt l[j].path l[i].path = false
theorem AscW.tail {a : Nd} {l : List Nd} (h : AscW (a :: l)) : AscW l := fun i j hi hj hij => h (i + 1) (j + 1) (by simp; omega) (by simp; omega) (by omega)
theorem AscW.head {a : Nd} {l : List Nd} (h : AscW (a :: l)) {b : Nd} (hb : b ∈ l) : lt b.path a.path = false := by
 obtain ⟨i, hi, rfl⟩ := List.getElem_of_mem hb
 exact h 0 (i + 1) (by simp) (by simp; omega) (by omega)
theorem AscW.kn {l m : List Nd} (h : AscW l) (e : m.map kn = l.map kn) : AscW m := by
 have hl : m.length = l.length := by have := congrArg List.length e; simpa using this
 have hp : ∀ i (hi : i < m.length) (hj : i < l.length), m[i].path = l[i].path := fun i hi hj => by
  have h1 : (m.map Pm.kn)[i]'(by simpa using hi) = (l.map Pm.kn)[i]'(by simpa using hj) := by simp only [e]
  simp only [List.getElem_map] at h1
  have h2 := congrArg Nd.path h1
  exact h2
 intro i j hi hj hij
 rw [hp i hi (by omega), hp j hj (by omega)]
 exact h i j (by omega) (by omega) hij
theorem Asc.of_kn {l m : List Nd} (h : Asc l) (e : m.map Pm.kn = l.map Pm.kn) : Asc m := by
 have hl : m.length = l.length := by have := congrArg List.length e; simpa using this
 have hp : ∀ i (hi : i < m.length) (hj : i < l.length), m[i].path = l[i].path := fun i hi hj => by
  have h1 : (m.map Pm.kn)[i]'(by simpa using hi) = (l.map Pm.kn)[i]'(by simpa using hj) := by simp only [e]
  simp only [List.getElem_map] at h1
  have h2 := congrArg Nd.path h1
  exact h2
 intro i j hi hj hij
 rw [hp i hi (by omega), hp j hj (by omega)]
 exact h i j (by omega) (by omega) hij
theorem AscW.strict {l : List Nd} (h : AscW l) (hn : (l.map Nd.path).Nodup) : Asc l := by
 intro i j hi hj hij
 refine lt_of (h i j hi hj hij) (fun e => ?_)
 have hp := List.nodup_iff_pairwise_ne.1 hn
 rw [List.pairwise_iff_getElem] at hp
 have := hp i j (by simpa using hi) (by simpa using hj) hij
 simp only [List.getElem_map] at this
 exact this e.symm
theorem Asc.nodup {l : List Nd} (h : Asc l) : (l.map Nd.path).Nodup := by
 rw [List.nodup_iff_pairwise_ne, List.pairwise_iff_getElem]
 intro i j hi hj hij
 simp only [List.length_map] at hi hj
 simp only [List.getElem_map]
 exact lt_ne (h i j hi hj hij)
theorem AscT.nodup {l : List Tu} (h : AscT l) : (l.map Tu.dir).Nodup := by
 rw [List.nodup_iff_pairwise_ne, List.pairwise_iff_getElem]
 intro i j hi hj hij
 simp only [List.length_map] at hi hj
 simp only [List.getElem_map]
 exact lt_ne (h i j hi hj hij)
def give (l : List Nd) (t : Tu) : Option (List Nd) :=
 if h : place l t.dir < l.length then (if l[place l t.dir].path = t.dir ∧ l[place l t.dir].turn = 0 then some (l.set (place l t.dir) { l[place l t.dir] with turn := t.next }) else none) else none
def giveAll : List Nd → List Tu → Option (List Nd)
 | l, [] => some l
 | l, t :: ts => (give l t).bind (fun m => giveAll m ts)
theorem giveAll_app (l : List Nd) (a b : List Tu) : giveAll l (a ++ b) = (giveAll l a).bind (fun m => giveAll m b) := by
 induction a generalizing l with
 | nil => rfl
 | cons t a ih =>
  simp only [List.cons_append, giveAll]
  cases give l t with
  | none => rfl
  | some m => simp only [Option.bind_some]; exact ih m
theorem giveAll_one (l : List Nd) (t : Tu) : giveAll l [t] = give l t := by
 unfold giveAll
 cases give l t with
 | none => rfl
 | some m => rfl
theorem give_ways {l m : List Nd} {t : Tu} (h : give l t = some m) : ∃ hk : place l t.dir < l.length, l[place l t.dir].path = t.dir ∧ l[place l t.dir].turn = 0 ∧ m = l.set (place l t.dir) { l[place l t.dir] with turn := t.next } := by
 unfold give at h
 split at h
 ·rename_i hk
  split at h
  ·rename_i k
   exact ⟨hk, k.1, k.2, (Option.some.inj h).symm⟩
  ·cases h
 ·cases h
theorem give_kn {l m : List Nd} {t : Tu} (h : give l t = some m) : m.map kn = l.map kn := by
 obtain ⟨hk, _, _, rfl⟩ := give_ways h
 rw [kn_set]
 exact set_same (by simpa using hk) (by rw [List.getElem_map]; rfl)
theorem giveAll_kn {ts : List Tu} {l m : List Nd} (h : giveAll l ts = some m) : m.map kn = l.map kn := by
 induction ts generalizing l with
 | nil => rw [Option.some.inj h]
 | cons t ts ih =>
  unfold giveAll at h
  cases hg : give l t with
  | none => rw [hg] at h; cases h
  | some x => rw [hg] at h; rw [ih h, give_kn hg]
theorem give_turns {l m : List Nd} {t : Tu} (ha : Asc l) (h : give l t = some m) (h0 : t.next ≠ 0) : (∀ s, s ∈ turnsOf m ↔ s = t ∨ s ∈ turnsOf l) ∧ ∀ s ∈ turnsOf l, s.dir ≠ t.dir := by
 obtain ⟨hk, h1, h2, rfl⟩ := give_ways h
 have hx : find l t.dir = some l[place l t.dir] := by rw [find_place ha, dif_pos hk, if_pos h1]
 have hno : ∀ s ∈ turnsOf l, s.dir ≠ t.dir := fun s hs e => by
  obtain ⟨n, k1, k2, k3, k4⟩ := mem_turnsOf.1 hs
  have := find_of ha k1
  rw [k2, e, hx] at this
  rw [← Option.some.inj this] at k4
  exact k4 h2
 refine ⟨fun s => ?_, hno⟩
 rw [← setT_turnsOf ha hx, mem_setT ha.turnsOf]
 constructor
 ·rintro (⟨_, k⟩ | ⟨_, k⟩)
  ·exact .inr k
  ·exact .inl k
 ·rintro (k | k)
  ·exact .inr ⟨h0, k⟩
  ·exact .inl ⟨hno s k, k⟩
theorem giveAll_turns {ts : List Tu} {l m : List Nd} (ha : Asc l) (h : giveAll l ts = some m) (h0 : ∀ t ∈ ts, t.next ≠ 0) : (∀ s, s ∈ turnsOf m ↔ s ∈ ts ∨ s ∈ turnsOf l) ∧ (ts.map Tu.dir).Nodup ∧ ∀ s ∈ turnsOf l, ∀ t ∈ ts, s.dir ≠ t.dir := by
 induction ts generalizing l with
 | nil => rw [Option.some.inj h]; exact ⟨fun s => by simp, List.nodup_nil, fun s _ t ht => by simp at ht⟩
 | cons t ts ih =>
  unfold giveAll at h
  cases hg : give l t with
  | none => rw [hg] at h; cases h
  | some x =>
   rw [hg] at h
   obtain ⟨g1, g2⟩ := give_turns ha hg (h0 t (List.mem_cons_self ..))
   obtain ⟨i1, i2, i3⟩ := ih (ha.of_kn (give_kn hg)) h (fun t ht => h0 t (List.mem_cons_of_mem _ ht))
   refine ⟨fun s => ?_, ?_, fun s hs t' ht' => ?_⟩
   ·rw [i1, g1, List.mem_cons]
    constructor
    ·rintro (k | k | k)
     ·exact .inl (.inr k)
     ·exact .inl (.inl k)
     ·exact .inr k
    ·rintro ((k | k) | k)
     ·exact .inr (.inl k)
     ·exact .inl k
     ·exact .inr (.inr k)
   ·rw [List.map_cons, List.nodup_cons]
    refine ⟨fun k => ?_, i2⟩
    obtain ⟨t', ht', e⟩ := List.mem_map.1 k
    exact i3 t ((g1 t).2 (.inl rfl)) t' ht' e.symm
   ·rcases List.mem_cons.1 ht' with rfl | ht'
    ·exact g2 s hs
    ·exact i3 s ((g1 s).2 (.inr hs)) t' ht'
theorem giveAll_some {ts : List Tu} {l : List Nd} (ha : Asc l) (h0 : ∀ t ∈ ts, t.next ≠ 0) (hn : (ts.map Tu.dir).Nodup) (hf : ∀ t ∈ ts, ∃ x, find l t.dir = some x ∧ x.turn = 0) : ∃ m, giveAll l ts = some m := by
 induction ts generalizing l with
 | nil => exact ⟨l, rfl⟩
 | cons t ts ih =>
  obtain ⟨x, hx, hx0⟩ := hf t (List.mem_cons_self ..)
  obtain ⟨hk, e⟩ := find_at ha hx
  have hg : give l t = some (l.set (place l t.dir) { l[place l t.dir] with turn := t.next }) := by
   unfold give
   rw [dif_pos hk, if_pos ⟨by rw [e]; exact (find_mem hx).2, by rw [e]; exact hx0⟩]
  unfold giveAll
  rw [hg]
  rw [List.map_cons, List.nodup_cons] at hn
  refine ih (ha.of_kn (give_kn hg)) (fun t ht => h0 t (List.mem_cons_of_mem _ ht)) hn.2 (fun t' ht' => ?_)
  obtain ⟨y, hy, hy0⟩ := hf t' (List.mem_cons_of_mem _ ht')
  refine ⟨y, ?_, hy0⟩
  rw [find_set ha hk { l[place l t.dir] with turn := t.next } rfl, if_neg (fun k => ?_)]
  ·exact hy
  ·refine hn.1 (List.mem_map.2 ⟨t', ht', ?_⟩)
   rw [k]
   show l[place l t.dir].path = t.dir
   rw [e]; exact (find_mem hx).2
structure TreeOf (ss : List St) (y : List Nd) : Prop where
 right : ∀ s ∈ ss, StR s
 tree : Tr y
 uniq : ((ss.flatMap St.nodes).map Nd.path).Nodup
 mem : ∀ n, n ∈ y.map kn ↔ n ∈ ss.flatMap St.nodes
 uniqT : ((ss.flatMap St.turns).map Tu.dir).Nodup
 memT : ∀ t, t ∈ turnsOf y ↔ t ∈ ss.flatMap St.turns
theorem nd_ext {y z : List Nd} (hy : Asc y) (hz : Asc z) (h1 : y.map kn = z.map kn) (h2 : ∀ t, t ∈ turnsOf y → t ∈ turnsOf z) : ∀ n ∈ y, n.turn ≠ 0 → n ∈ z := by
 intro n hn h0
 have h3 := h2 ⟨n.path, n.turn⟩ (mem_turnsOf.2 ⟨n, hn, rfl, rfl, h0⟩)
 obtain ⟨m, k1, k2, k3, _⟩ := mem_turnsOf.1 h3
 simp only at k2 k3
 have h4 : kn n ∈ z.map kn := by rw [← h1]; exact List.mem_map.2 ⟨n, hn, rfl⟩
 obtain ⟨m', j1, j2⟩ := List.mem_map.1 h4
 have e : m'.path = n.path := by have h5 := congrArg Nd.path j2; exact h5
 have hm := find_of hz k1
 have hm' := find_of hz j1
 rw [k2] at hm
 rw [e, hm] at hm'
 have hmm := Option.some.inj hm'
 subst hmm
 have : m = n := by
  obtain ⟨a, b, c, d, f⟩ := m
  obtain ⟨a', b', c', d', f'⟩ := n
  unfold kn at j2
  injection j2 with e1 e2 e3 e4 e5
  simp only at e1 e2 e3 e5 k3
  subst e1 e2 e3 e5 k3
  rfl
 rw [← this]; exact k1
theorem tree_one {y z : List Nd} (hy : Asc y) (hz : Asc z) (h1 : y.map kn = z.map kn) (h2 : ∀ t, t ∈ turnsOf y ↔ t ∈ turnsOf z) : y = z := by
 have half : ∀ {a b : List Nd}, Asc a → Asc b → a.map kn = b.map kn → (∀ t, t ∈ turnsOf a ↔ t ∈ turnsOf b) → ∀ n ∈ a, n ∈ b := by
  intro a b ha hb e ht n hn
  by_cases h0 : n.turn = 0
  ·have h4 : kn n ∈ b.map kn := by rw [← e]; exact List.mem_map.2 ⟨n, hn, rfl⟩
   obtain ⟨m, j1, j2⟩ := List.mem_map.1 h4
   by_cases hm0 : m.turn = 0
   ·have : m = n := by
     obtain ⟨a, b, c, d, f⟩ := m
     obtain ⟨a', b', c', d', f'⟩ := n
     unfold kn at j2
     injection j2 with e1 e2 e3 e4 e5
     simp only at e1 e2 e3 e5 h0 hm0
     subst e1 e2 e3 e5 h0 hm0
     rfl
    rw [← this]; exact j1
   ·have hma := nd_ext hb ha e.symm (fun t k => (ht t).2 k) m j1 hm0
    have ep : m.path = n.path := by have h5 := congrArg Nd.path j2; exact h5
    have f1 := find_of ha hma
    have f2 := find_of ha hn
    rw [ep, f2] at f1
    rw [← Option.some.inj f1] at hm0
    exact absurd h0 hm0
  ·exact nd_ext ha hb e (fun t k => (ht t).1 k) n hn h0
 exact asc_ext hy hz (fun n => ⟨half hy hz h1 h2 n, half hz hy h1.symm (fun t => (h2 t).symm) n⟩)
theorem TreeOf.one {ss : List St} {y z : List Nd} (h : TreeOf ss y) (g : TreeOf ss z) : y = z := by
 refine tree_one h.tree.asc g.tree.asc ?_ (fun t => by rw [h.memT, g.memT])
 exact asc_ext h.tree.asc.kn g.tree.asc.kn (fun n => by rw [h.mem, g.mem])
theorem StR.next {s : St} (h : StR s) {t : Tu} (ht : t ∈ s.turns) : t.next ≠ 0 := by
 have := h.tfit t ht
 unfold Pm.tfit at this
 simp only [Bool.and_eq_true, decide_eq_true_eq] at this
 omega
theorem StR.turn0 {s : St} (h : StR s) {n : Nd} (hn : n ∈ s.nodes) : n.turn = 0 := ((sfit_iff n).1 (h.fit n hn)).2.2.1
theorem kn_self {n : Nd} (h : n.turn = 0) : kn n = n := by obtain ⟨_, _, _, _, _⟩ := n; cases h; rfl
theorem map_kn_self {l : List Nd} (h : ∀ n ∈ l, n.turn = 0) : l.map kn = l := by
 conv => rhs; rw [← List.map_id l]
 exact List.map_congr_left (fun n hn => kn_self (h n hn))
theorem turnsOf_none {l : List Nd} (h : ∀ n ∈ l, n.turn = 0) : turnsOf l = [] := by
 unfold turnsOf
 rw [List.map_eq_nil_iff, List.filter_eq_nil_iff]
 intro n hn; simp [h n hn]
theorem tree_of {ss : List St} {A m : List Nd} (hr : ∀ s ∈ ss, StR s) (hp : A.Perm (ss.flatMap St.nodes)) (hw : AscW A) (hg : giveAll A (ss.flatMap St.turns) = some m) (ht : Tr m) : TreeOf ss m := by
 have hA0 : ∀ n ∈ A, n.turn = 0 := fun n hn => by
  obtain ⟨s, hs, hn⟩ := List.mem_flatMap.1 (hp.mem_iff.1 hn); exact (hr s hs).turn0 hn
 have hk := giveAll_kn hg
 have hAA : Asc A := ht.asc.of_kn hk.symm
 obtain ⟨g1, g2, _⟩ := giveAll_turns hAA hg (fun t ht => by obtain ⟨s, hs, hn⟩ := List.mem_flatMap.1 ht; exact (hr s hs).next hn)
 refine ⟨hr, ht, (hp.map Nd.path).nodup_iff.1 hAA.nodup, fun n => ?_, g2, fun t => ?_⟩
 ·rw [hk, map_kn_self hA0]; exact hp.mem_iff
 ·rw [g1, turnsOf_none hA0]; simp
theorem tree_made {ss : List St} {A y : List Nd} (h : TreeOf ss y) (hp : A.Perm (ss.flatMap St.nodes)) (hw : AscW A) : giveAll A (ss.flatMap St.turns) = some y := by
 have hA0 : ∀ n ∈ A, n.turn = 0 := fun n hn => by
  obtain ⟨s, hs, hn⟩ := List.mem_flatMap.1 (hp.mem_iff.1 hn); exact (h.right s hs).turn0 hn
 have hAA : Asc A := hw.strict ((hp.map Nd.path).nodup_iff.2 h.uniq)
 have hAy : A = y.map kn := asc_ext hAA h.tree.asc.kn (fun n => by rw [h.mem, hp.mem_iff])
 have hnx : ∀ t ∈ ss.flatMap St.turns, t.next ≠ 0 := fun t ht => by obtain ⟨s, hs, hn⟩ := List.mem_flatMap.1 ht; exact (h.right s hs).next hn
 obtain ⟨m, hm⟩ := giveAll_some hAA hnx h.uniqT (fun t ht => by
  obtain ⟨n, k1, k2, k3, k4⟩ := mem_turnsOf.1 ((h.memT t).2 ht)
  refine ⟨kn n, ?_, rfl⟩
  rw [hAy, find_kn, ← k2, find_of h.tree.asc k1]; rfl)
 rw [hm]
 obtain ⟨g1, g2, _⟩ := giveAll_turns hAA hm hnx
 have hk := giveAll_kn hm
 rw [map_kn_self hA0, hAy] at hk
 have : m = y := tree_one (h.tree.asc.of_kn hk) h.tree.asc hk (fun t => by rw [g1, turnsOf_none hA0, h.memT]; simp)
 rw [this]
theorem tree_keep {l : List Nd} (h : Tr l) : TreeOf [keep l] l := by
 have hS := h.store
 refine ⟨fun s hs => by rw [List.mem_singleton.1 hs]; exact hS, h, ?_, fun n => ?_, ?_, fun t => ?_⟩
 ·rw [List.flatMap_singleton]; exact hS.asc.nodup
 ·rw [List.flatMap_singleton]; rfl
 ·rw [List.flatMap_singleton]; exact hS.tasc.nodup
 ·rw [List.flatMap_singleton]; rfl
theorem keep_tree {s : St} {y : List Nd} (h : TreeOf [s] y) : keep y = s ∧ StR s := by
 have hS := h.right s (List.mem_singleton.2 rfl)
 have h1 := h.mem
 have h2 := h.memT
 rw [List.flatMap_singleton] at h1 h2
 refine ⟨?_, hS⟩
 obtain ⟨a, b⟩ := s
 unfold keep
 rw [asc_ext h.tree.asc.kn hS.asc h1, ascT_ext h.tree.asc.turnsOf hS.tasc h2]
end Pm
end Go.Proofs.YtphoglepiegeiaaGreatDoor
namespace Go.Proofs.YtphoglepiegeiaaGreatDoor
set_option maxRecDepth 20000
namespace Pm
def turnOp (p : Bs) : Opn := ⟨1, p, [], 0, 0, true⟩
theorem named_rise {p u a b : Bs} {s t : Int} (ha : named (turnOp p) u s = some a) (hb : named (turnOp p) u t = some b) (h : s < t) : lt a b = true := by
 unfold named turnOp at ha hb
 simp only [if_true] at ha hb
 cases h1 : numbered (last p) s with
 | none => rw [h1] at ha; cases ha
 | some x =>
 cases h2 : numbered (last p) t with
 | none => rw [h2] at hb; cases hb
 | some y =>
 rw [h1] at ha; rw [h2] at hb
 simp only [Option.bind_some] at ha hb
 obtain ⟨s0, s1⟩ := numbered_turn h1
 obtain ⟨t0, t1⟩ := numbered_turn h2
 obtain ⟨m, rfl⟩ := Int.eq_ofNat_of_zero_le s0
 obtain ⟨n, rfl⟩ := Int.eq_ofNat_of_zero_le t0
 rcases numbers (last p) m n (by omega) (by omega) with ⟨k, _⟩ | ⟨x', y', k1, k2, _, k3, _⟩
 ·rw [k] at h1; cases h1
 ·obtain rfl : x' = x := Option.some.inj (k1.symm.trans h1)
  obtain rfl : y' = y := Option.some.inj (k2.symm.trans h2)
  obtain ⟨ps, hs, ea⟩ := join_pre ha
  obtain ⟨qs, hs2, eb⟩ := join_pre hb
  rw [hs] at hs2; obtain rfl := Option.some.inj hs2
  rw [joinP_snoc] at ea eb
  rw [ea, eb, lt_append]
  show Op.bytesLess x' y' = true
  rw [k3]; simp; omega
structure Rises (l : List Nd) (p last : Bs) : Prop where
 tr : Tr l
 was : last = [] ∨ ∃ u x t, parent p = some u ∧ find l u = some x ∧ named (turnOp p) u t = some last ∧ t < x.turn
theorem Rises.made {l : List Nd} {p last : Bs} (h : Rises l p last) (hm : may (turnOp p) = true) (he : (perform l (turnOp p)).2.err = 0) :
  lt last (perform l (turnOp p)).2.path = true ∧ Rises (perform l (turnOp p)).1 p (perform l (turnOp p)).2.path ∧ (perform l (turnOp p)).2.path.length ≤ 100 := by
 have hk : (turnOp p).kind = 1 := rfl
 have ep : perform l (turnOp p) = create l (turnOp p) := by unfold perform; rw [if_pos hk]
 rcases create_ways hm hk h.tr.most with ⟨_, e, e2, c0, _⟩ | m
 ·rw [ep, e2] at he; exact absurd he c0
 ·have m2 := m
  obtain ⟨u, x, q, hu, hx, h0, hn, hp, hl, hpu, ha, hr⟩ := m.ex
  have hrp : (create l (turnOp p)).2.path = q := by rw [hr]
  have hf := m2.find h.tr hu hrp
  have hT := m2.tr h.tr hm
  rw [ep, hrp]
  have hq : q ≠ [] := by rintro rfl; cases hpu
  obtain ⟨_, _, _, _, _, hlen, _⟩ := parent_some hpu
  refine ⟨?_, ⟨hT, .inr ⟨u, { x with turn := x.turn + 1 }, x.turn, hu, ?_, hn, by simp; omega⟩⟩, hlen⟩
  ·rcases h.was with rfl | ⟨u', x', t, hu', hx', hn', hlt⟩
   ·cases q with
    | nil => exact absurd rfl hq
    | cons => rfl
   ·rw [show parent (turnOp p).path = parent p from rfl] at hu; rw [hu] at hu'; obtain rfl := Option.some.inj hu'
    rw [hx] at hx'; obtain rfl := Option.some.inj hx'
    exact named_rise hn' hn hlt
  ·rw [hf, if_neg, if_pos ⟨rfl, rfl⟩, hx]
   ·rfl
   ·intro e; have := parent_lt hpu; rw [e, lt_irrefl] at this; cases this
def hd0 : List Nd := [⟨[47], [], 0, 0, 0⟩]
end Pm
end Go.Proofs.YtphoglepiegeiaaGreatDoor
namespace Go.Proofs.YtphoglepiegeiaaGreatDoor
set_option maxRecDepth 20000
namespace Pm
def hl0 : List Nd := [⟨[47], [], 0, 3, 0⟩]
def hlL : List Nd := [⟨[47], [], 0, 3, 0⟩, ⟨[47, 97], [], 0, 0, 0⟩]
def hlW : List Nd := [⟨[47], [], 0, 3, 0⟩, ⟨[47, 97], [], 0, 0, 0⟩, ⟨[47, 97, 47, 98], [120], 0, 0, 0⟩]
def hlP0 : Pt := ⟨1, [47], [47, 97], [], 0, 0, false⟩
def hlP1 : Pt := ⟨2, [47, 97], [47, 97, 47, 98], [120], 0, 0, false⟩
def hlS : St := ⟨[⟨[47], [], 0, 0, 0⟩, ⟨[47, 97], [], 0, 0, 0⟩], [⟨[47], 3⟩]⟩
def hlU : St := ⟨[⟨[47], [], 0, 0, 0⟩, ⟨[47, 97], [], 0, 0, 0⟩, ⟨[47, 97, 47, 98], [120], 0, 0, 0⟩], [⟨[47], 3⟩]⟩
theorem hl0_tr : Tr hl0 := (show Tree hl0 from ⟨by decide, by decide, rfl, rfl, by decide, fun i hi => absurd hi (by simp [hl0]), fun i hi hp => absurd hi (by simp [hl0]; omega)⟩).tr
theorem hlL_tr : Tr hlL := by
 have := perform_tr hl0_tr (o := ⟨1, [47, 97], [], 0, 0, false⟩) (by decide)
 rwa [show (perform hl0 ⟨1, [47, 97], [], 0, 0, false⟩).1 = hlL by decide] at this
theorem hlW_tr : Tr hlW := by
 have := perform_tr hlL_tr (o := ⟨1, [47, 97, 47, 98], [120], 0, 0, false⟩) (by decide)
 rwa [show (perform hlL ⟨1, [47, 97, 47, 98], [120], 0, 0, false⟩).1 = hlW by decide] at this
theorem hlS_eq : keep hlL = hlS := by decide
theorem hlU_eq : keep hlW = hlU := by decide
theorem hlS_right : StR hlS := by rw [← hlS_eq]; exact hlL_tr.store
theorem hlU_right : StR hlU := by rw [← hlU_eq]; exact hlW_tr.store
theorem hl_parts : partsOf ⟨1, [47, 97, 47, 98], [120], 0, 0, false⟩ = [hlP0, hlP1] := by decide
theorem hl_may0 : mayP hlP0 = true := by decide
theorem hl_may1 : mayP hlP1 = true := by decide
theorem hl_do0 : applyP hlS hlP0 = (hlS, okR) := by rw [applyP_yes hlS_right hl_may0]; decide
theorem hl_do1 : applyP hlS hlP1 = (hlU, ⟨0, [47, 97, 47, 98], [], 0, []⟩) := by rw [applyP_yes hlS_right hl_may1]; decide
theorem hl_do2 : applyP hlS ⟨0, [], [], [], 0, 0, false⟩ = (⟨[], []⟩, .bad 1) := applyP_no (by rintro ⟨_, h⟩; revert h; decide)
theorem hl_tree : TreeOf [hlU] hlW := by rw [← hlU_eq]; exact tree_keep hlW_tr
end Pm
end Go.Proofs.YtphoglepiegeiaaGreatDoor
namespace Go.Proofs.YtphoglepiegeiaaGreatDoor
set_option maxRecDepth 20000
open Go.RowKit Pm
attribute [go_sem] B_size B_toList B_get B_extract B_app lit_app app_lit lit_extract
def Dr (w w' : World) : Prop := ∃ n, w' = w.drewN n
theorem Dr.refl (w : World) : Dr w w := ⟨0, rfl⟩
theorem Dr.of (w : World) (n : Nat) : Dr w (w.drewN n) := ⟨n, rfl⟩
theorem Dr.trans {a b c : World} (h : Dr a b) (k : Dr b c) : Dr a c := by
 obtain ⟨n, rfl⟩ := h; obtain ⟨m, rfl⟩ := k; exact ⟨n + m, by rw [World.drewN_drewN]⟩
theorem Dr.below {w w' : World} (h : Dr w w') (b0 : Nat) : Below b0 w w' := by
 obtain ⟨n, rfl⟩ := h; exact below_drewN (Below.refl _ _) n
theorem Dr.size {w w' : World} (h : Dr w w') : w'.heap.size = w.heap.size := by obtain ⟨n, rfl⟩ := h; rfl
theorem Dr.owns {w w' : World} (h : Dr w w') {b0 : Nat} {e : TypeId} {k : Nat} {v : Value} {n : Nat} {xs : List Value} (ho : w.ownsRow b0 e k v n xs) : w'.ownsRow b0 e k v n xs := by
 obtain ⟨n, rfl⟩ := h; exact ho
theorem ret_bool {a b : Bool} (h : a = b) : Ending.returned (.bool a) = .returned (.bool b) := by rw [h]
theorem ret_int {k : IntKind} {a b : Int} (h : a = b) : Ending.returned (.int k a) = .returned (.int k b) := by rw [h]
set_option maxHeartbeats 400000 in
theorem isPartByte_c (b : Nat) (w : World) :
  Calls Tryz.prog 186 #[.int .u8 b] w fun e w' => e = .returned (.bool (okN b)) ∧ w = w' := by
 go_enter Tryz.func186, Tryz.ntmps186
 go_wp2
 all_goals (go_ret; refine ⟨ret_bool ?_, rfl⟩; unfold okN; rw [Bool.eq_iff_iff]; simp; omega)
set_option maxHeartbeats 400000 in
theorem partLen_c (l : Bs) (w : World) (hl : l.length ≤ 9223372036854775807) :
  Calls Tryz.prog 170 #[.string (B l)] w fun e w' => e = .returned (.int .i64 (pl 12 l)) ∧ w = w' := by
 go_enter Tryz.func170, Tryz.ntmps170
 go_wp2
 go_loop [3] (fun n => ∃ k : Nat, k ≤ 12 ∧ k ≤ l.length ∧ n = .int .i64 k ∧ Hid (∀ i (h : i < l.length), i < k → okB l[i] = true)) (fun n => 12 - (intOf n).toNat)
 case atStart => exact ⟨0, by omega, by omega, rfl, fun i h hn => by omega⟩
 case round =>
  obtain ⟨k, hk, hkl, rfl, ha⟩ := hrel
  by_cases h1 : k < l.length
  ·by_cases h2 : k < 12
   ·go_wp2_with (go_at_call 186; refine (isPartByte_c _ _).mono ?_; rintro e w' ⟨rfl, rfl⟩)
    ·have hok : okN (l[k].toNat) = true := by assumption
     go_round
     case rel => exact ⟨k + 1, by omega, by omega, by go_num, fun i hi hn => by
      by_cases hik : i = k
      ·subst hik; exact hok
      ·exact ha i hi (by omega)⟩
     case measure => simp [intOf]; omega
    ·have hok : okN (l[k].toNat) = false := by assumption
     go_ret
     exact ⟨ret_int (by rw [pl_stop k l (by omega) (by omega) ha (Or.inr (Or.inr ⟨h1, hok⟩))]), rfl⟩
   ·go_wp2
    go_ret
    exact ⟨ret_int (by rw [pl_stop k l (by omega) (by omega) ha (Or.inl (by omega))]), rfl⟩
  ·go_wp2
   go_ret
   exact ⟨ret_int (by rw [pl_stop k l (by omega) (by omega) ha (Or.inr (Or.inl (by omega)))]), rfl⟩
set_option maxHeartbeats 400000 in
theorem isPart_c (l : Bs) (w : World) (hl : l.length ≤ 9223372036854775807) :
  Calls Tryz.prog 180 #[.string (B l)] w fun e w' => e = .returned (.bool (isPart l)) ∧ w = w' := by
 go_enter Tryz.func180, Tryz.ntmps180
 go_wp2_with (go_at_call 170; refine (partLen_c _ _ hl).mono ?_; rintro e w' ⟨rfl, rfl⟩)
 ·have h : l = [] := by assumption
  subst h
  go_ret
  exact ⟨rfl, rfl⟩
 ·go_ret
  refine ⟨ret_bool ?_, rfl⟩
  unfold isPart
  congr 1
  rw [Bool.eq_iff_iff]; simp; omega
set_option maxHeartbeats 400000 in
theorem cut_c (l : Bs) (w : World) (hl : l.length ≤ 9223372036854775807) :
  Calls Tryz.prog 137 #[.string (B l)] w fun e w' => e = .returned (.tuple #[.string (B (cut l).1), .string (B (cut l).2)]) ∧ Dr w w' := by
 match l, hl with
 | [], _ =>
  go_enter Tryz.func137, Tryz.ntmps137
  go_wp2
  go_ret2
  exact ⟨rfl, Dr.refl _⟩
 | c :: r, hl =>
  simp at hl
  by_cases hc : c = 47
  ·subst hc
   go_enter Tryz.func137, Tryz.ntmps137
   have h1 := pl_le 12 r
   have h2 := pl_len 12 r
   go_wp2_with (go_at_call 170; refine (partLen_c r _ (by omega)).mono ?_; rintro e w' ⟨rfl, rfl⟩)
   go_quiet (fail)
   go_wp2
   go_ret2
   refine ⟨?_, Dr.of _ _⟩
   have e1 : 1 + pl 12 r - 1 = pl 12 r := by omega
   have e2 : (List.drop (1 + pl 12 r) (47 :: r)) = r.drop (pl 12 r) := by rw [Nat.add_comm, List.drop_succ_cons]
   have e3 : List.take (r.length + 1 - (1 + pl 12 r)) (r.drop (pl 12 r)) = r.drop (pl 12 r) := List.take_of_length_le (by simp; omega)
   show Ending.returned (.tuple #[.string (B (List.take (1 + pl 12 r - 1) r)), .string (B (List.take (r.length + 1 - (1 + pl 12 r)) (List.drop (1 + pl 12 r) (47 :: r))))]) = _
   rw [e1, e2, e3]
   rfl
  ·have hb : ((c.toNat : Int) != 47) = true := by simp; intro h; apply hc; apply UInt8.toNat.inj; exact Int.ofNat_inj.1 h
   go_enter Tryz.func137, Tryz.ntmps137
   go_wp2
   go_ret2
   exact ⟨by simp [cut, hc]; rfl, Dr.refl _⟩
end Go.Proofs.YtphoglepiegeiaaGreatDoor
