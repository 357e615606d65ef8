/- Texts of this proof, merged. -/
import Derived.Test.YtdfnfkknbjageaaZA
import Derived.WalkSpells
import Derived.Deep.RegionWith
import Derived.Deep.RegionLaw
import Derived.Laws.CopyRow
import Derived.Laws.IdiomCopy
import Derived.Laws.OwnMore
import Derived.Maps.AppendAt
import Derived.Deep.Upon
import Derived.OwnWalk
import Derived.Deep.QuietTactic
import Derived.Maps.OwnSet
import Derived.StringKeys
import Derived.Deep.RegionHeld
import Derived.Shelf.Abstract
import Derived.Test.YtdfnfkknbjageaaShelf
import Derived.Laws.StructEq
import Derived.Lib.Bytealg
import Derived.Lib.SliceRun
import Derived.Lib.Overlaps
import Derived.Lib.AppendZerosOnto
import Derived.Laws.Externs
set_option linter.unusedVariables false
set_option linter.unusedSimpArgs false
/- Plain lists: where a node lies, what is put, taken away; operations. Nothing of the program. -/
namespace Go.Proofs.Ytdfnfkknbjageaa
set_option maxRecDepth 20000
namespace Pm

/-- Where a path lies, or would. -/
def place (l : List Nd) (p : Bs) : Nat := l.countP (fun n => lt n.path p)
theorem place_cons (a : Nd) (l : List Nd) (p : Bs) : place (a :: l) p = place l p + if lt a.path p = true then 1 else 0 := by
  unfold place; rw [List.countP_cons]

/-- Of a rising list: all ahead of the place are below, all behind it are not. -/
theorem place_low {l : List Nd} (ha : Asc l) (p : Bs) : ∀ i (h : i < l.length), (lt l[i].path p = true ↔ i < place l p) := by
  induction l with
  | nil => intro i h; simp at h
  | cons a l ih =>
    intro i h
    rw [place_cons]
    by_cases hb : lt a.path p = true
    · rw [if_pos hb]
      cases i with
      | zero => simpa using hb
      | succ i => simpa using ih ha.tail i (by simpa using h)
    · rw [if_neg hb]
      have z : place l p = 0 := by
        unfold place; rw [List.countP_eq_zero]
        intro x hx
        have := ha.head x hx
        intro hc; exact hb (lt_trans this hc)
      rw [z]
      cases i with
      | zero => simpa using hb
      | succ i =>
        have := ha.head (l[i]'(by simpa using h)) (List.getElem_mem _)
        simp only [List.getElem_cons_succ]
        constructor
        · intro hc; exact absurd (lt_trans this hc) hb
        · intro hc; omega

theorem place_at {l : List Nd} (ha : Asc l) {i : Nat} (h : i < l.length) : place l l[i].path = i := by
  have k := place_low ha l[i].path
  have h1 := k i h
  rw [lt_irrefl] at h1
  simp at h1
  rcases Nat.lt_or_ge i (place l l[i].path) with h2 | h2
  · omega
  · rcases Nat.lt_or_ge (place l l[i].path) i with h3 | h3
    · exact absurd ((k _ (Nat.lt_trans h3 h)).1 (ha _ _ (Nat.lt_trans h3 h) h h3)) (Nat.lt_irrefl _)
    · omega

theorem find_at {l : List Nd} (ha : Asc l) {p : Bs} {x : Nd} (h : find l p = some x) : ∃ hk : place l p < l.length, l[place l p] = x := by
  obtain ⟨hm, rfl⟩ := find_mem h
  obtain ⟨i, hi, rfl⟩ := List.getElem_of_mem hm
  have e := place_at ha hi
  exact ⟨by rw [e]; exact hi, by simp only [e]⟩
theorem Asc.set {l : List Nd} (ha : Asc l) {i : Nat} (hi : i < l.length) (y : Nd) (hy : y.path = l[i].path) : Asc (l.set i y) := by
  intro a b hA hB hab
  simp only [List.length_set] at hA hB
  rw [List.getElem_set, List.getElem_set]
  split <;> split
  · omega
  · rename_i h1 h2; subst h1; rw [hy]; exact ha _ _ _ _ hab
  · rename_i h1 h2; subst h2; rw [hy]; exact ha _ _ _ _ hab
  · exact ha _ _ _ _ hab

def ins (l : List Nd) (k : Nat) (x : Nd) : List Nd := l.take k ++ x :: l.drop k
theorem ins_zero (l : List Nd) (x : Nd) : ins l 0 x = x :: l := rfl
theorem ins_succ (a : Nd) (l : List Nd) (k : Nat) (x : Nd) : ins (a :: l) (k + 1) x = a :: ins l k x := rfl
theorem mem_ins {l : List Nd} {k : Nat} {x y : Nd} : y ∈ ins l k x ↔ y = x ∨ y ∈ l := by
  unfold ins
  rw [List.mem_append, List.mem_cons]
  constructor
  · rintro (h | h | h)
    · exact .inr (List.mem_of_mem_take h)
    · exact .inl h
    · exact .inr (List.mem_of_mem_drop h)
  · rintro (h | h)
    · exact .inr (.inl h)
    · rw [← List.take_append_drop k l, List.mem_append] at h
      rcases h with h | h
      · exact .inl h
      · exact .inr (.inr h)

theorem Asc.cons {a : Nd} {l : List Nd} (h : Asc l) (k : ∀ b ∈ l, lt a.path b.path = true) : Asc (a :: l) := by
  rw [asc_iff] at h ⊢; exact List.pairwise_cons.2 ⟨k, h⟩

/-- What is put where nothing of its path lies. -/
theorem Asc.ins {l : List Nd} (ha : Asc l) (x : Nd) (h : find l x.path = none) : Asc (ins l (place l x.path) x) := by
  induction l with
  | nil => exact Asc.cons (by intro i j hi; simp at hi) (by simp)
  | cons a l ih =>
    have hne : a.path ≠ x.path := find_none.1 h a (by simp)
    rw [place_cons]
    by_cases hb : lt a.path x.path = true
    · rw [if_pos hb, ins_succ]
      refine Asc.cons (ih ha.tail (find_none.2 fun y hy => find_none.1 h y (by simp [hy]))) ?_
      intro b hm
      rw [mem_ins] at hm
      rcases hm with rfl | hm
      · exact hb
      · exact ha.head b hm
    · rw [if_neg hb]
      have z : place l x.path = 0 := by
        unfold place; rw [List.countP_eq_zero]
        intro y hy hc; exact hb (lt_trans (ha.head y hy) hc)
      rw [z, Nat.zero_add, ins_zero]
      have hxa : lt x.path a.path = true := lt_of (Bool.not_eq_true _ ▸ hb) hne
      refine Asc.cons ha ?_
      intro b hm
      rw [List.mem_cons] at hm
      rcases hm with rfl | hm
      · exact hxa
      · exact lt_trans hxa (ha.head b hm)

/-- The document's Put. -/
def put : List Nd → Nd → List Nd
  | [], x => [x]
  | a :: l, x => if lt a.path x.path = true then a :: put l x else x :: (a :: l).filter (fun n => n.path != x.path)

theorem filter_none {l : List Nd} {p : Bs} (h : ∀ x ∈ l, x.path ≠ p) : l.filter (fun n => n.path != p) = l := by
  rw [List.filter_eq_self]; intro x hx; simpa using h x hx

/-- Taken away. -/
theorem erase_eq {l : List Nd} (ha : Asc l) {p : Bs} (hk : place l p < l.length) (h : (l[place l p]).path = p) : l.filter (fun n => n.path != p) = l.eraseIdx (place l p) := by
  induction l with
  | nil => simp at hk
  | cons a l ih =>
    by_cases hb : lt a.path p = true
    · have e : place (a :: l) p = place l p + 1 := by rw [place_cons, if_pos hb]
      simp only [e, List.getElem_cons_succ, List.length_cons] at h hk
      rw [e, List.eraseIdx_cons_succ, List.filter_cons, if_pos (by simpa using lt_ne hb), ih ha.tail (by omega) h]
    · have z : place l p = 0 := by
        unfold place; rw [List.countP_eq_zero]
        intro y hy hc; exact hb (lt_trans (ha.head y hy) hc)
      have e : place (a :: l) p = 0 := by rw [place_cons, if_neg hb, z]
      simp only [e, List.getElem_cons_zero] at h
      rw [e, List.eraseIdx_cons_zero, List.filter_cons, if_neg (by simp [h]), filter_none]
      intro y hy; rw [← h]; exact (lt_ne (ha.head y hy)).symm

def kids (l : List Nd) (p : Bs) : List Nd := l.filter (fun n => parent n.path == some p)

def named (o : Opn) (u : Bs) (turn : Int) : Option Bs := if o.turns = true then (numbered (last o.path) turn).bind (join u) else some o.path

/-- May it be? -/
def may (o : Opn) : Bool :=
  (split o.path).isSome && decide (o.data.length ≤ 256 ∧ 0 ≤ o.own ∧ o.own ≤ 1099511627776) &&
  (if o.kind = 1 then decide (o.path ≠ [47] ∧ o.ver = 0)
   else if o.kind = 2 then decide (o.path ≠ [47] ∧ -1 ≤ o.ver ∧ o.ver ≤ 281474976710656 ∧ o.data = [] ∧ o.own = 0 ∧ o.turns = false)
   else if o.kind = 3 then decide (-1 ≤ o.ver ∧ o.ver ≤ 281474976710656 ∧ o.own = 0 ∧ o.turns = false)
   else if o.kind = 4 then decide (-1 ≤ o.ver ∧ o.ver ≤ 281474976710656 ∧ o.data = [] ∧ o.own = 0 ∧ o.turns = false)
   else if o.kind = 5 ∨ o.kind = 6 then decide (o.ver = 0 ∧ o.data = [] ∧ o.own = 0 ∧ o.turns = false)
   else if o.kind = 7 then decide (o.ver = 0 ∧ o.data = [] ∧ 0 < o.own ∧ o.turns = false)
   else false)

def create (l : List Nd) (o : Opn) : List Nd × Res :=
  let u := (parent o.path).getD []
  match find l u with
  | none => (l, .bad 62)
  | some x => if x.own ≠ 0 then (l, .bad 65) else match named o u x.turn with
    | none => (l, .bad 66)
    | some p => if (find l p).isSome = true then (l, .bad 61) else if l.length = 512 then (l, .bad 2) else
        (ins (if o.turns = true then l.set (place l u) { x with turn := x.turn + 1 } else l) (place l p) ⟨p, o.data, 0, 0, o.own⟩, ⟨0, p, [], 0, []⟩)

def swept (o : Opn) (n : Nd) : Bool := n.own == o.own && parent n.path == some o.path

def doit (l : List Nd) (o : Opn) (x : Nd) : List Nd × Res :=
  if o.kind = 2 then (if kids l o.path = [] then (l.eraseIdx (place l o.path), ⟨0, [], [], 0, []⟩) else (l, .bad 64))
  else if o.kind = 3 then (if x.ver = 281474976710656 then (l, .bad 2) else (l.set (place l o.path) { x with data := o.data, ver := x.ver + 1 }, ⟨0, [], [], x.ver + 1, []⟩))
  else if o.kind = 4 then (l, ⟨0, [], [], x.ver, []⟩)
  else if o.kind = 5 then (l, ⟨0, [], x.data, x.ver, []⟩)
  else if o.kind = 6 then (l, ⟨0, [], [], 0, (kids l o.path).map (fun n => last n.path)⟩)
  else (l.filter (fun n => !swept o n), ⟨0, [], [], 0, (l.filter (swept o)).map (fun n => last n.path)⟩)

def versioned (k : Int) : Bool := k == 2 || k == 3 || k == 4

def perform (l : List Nd) (o : Opn) : List Nd × Res :=
  if o.kind = 1 then create l o
  else match find l o.path with
    | none => (l, .bad 62)
    | some x => if versioned o.kind = true ∧ o.ver ≠ -1 ∧ o.ver ≠ x.ver then (l, .bad 63) else doit l o x

noncomputable def apply (l : List Nd) (o : Opn) : List Nd × Res := if right l && may o then perform l o else ([], .bad 1)

end Pm
end Go.Proofs.Ytdfnfkknbjageaa

/- Plain lists: what an operation makes of a tree is a tree. Nothing of the program. -/
namespace Go.Proofs.Ytdfnfkknbjageaa
set_option maxRecDepth 20000
namespace Pm

theorem parent_ne_root {p u : Bs} (h : parent p = some u) : p ≠ [47] := by rintro rfl; cases h

theorem numbered_turn {p q : Bs} {t : Int} (h : numbered p t = some q) : 0 ≤ t ∧ t ≤ 9999 := by
  unfold numbered at h; split at h
  · rename_i k; exact ⟨k.1, k.2.1⟩
  · cases h

theorem filter_erase {l : List Nd} (h : Asc l) {p : Bs} {x : Nd} (hx : find l p = some x) : l.eraseIdx (place l p) = l.filter (fun n => n.path != p) := by
  obtain ⟨hk, e⟩ := find_at h hx
  exact (erase_eq h hk (by rw [e]; exact (find_mem hx).2)).symm

end Pm
end Go.Proofs.Ytdfnfkknbjageaa

/- Plain lists: what the laws of layer 6 say of operations. Nothing of the program. -/
namespace Go.Proofs.Ytdfnfkknbjageaa
set_option maxRecDepth 20000
namespace Pm

def pre : List Bs → Bs
  | [] => [47]
  | p :: r => flat (p :: r) ++ [47]
end Pm
end Go.Proofs.Ytdfnfkknbjageaa

/- What a call may change; nodes in memory: slices of them, rows of the call's own; append, copy, clear at the operation. -/
namespace Go.Proofs.Ytdfnfkknbjageaa
set_option maxRecDepth 20000
open Go.RowKit Pm

/-- As it was, but for the blocks of S, and new ones. -/
structure Fp (S : Nat → Prop) (w w' : World) : Prop where
  os : w'.os = w.os
  tape : w'.tape = w.tape
  output : w'.output = w.output
  size : w.heap.size ≤ w'.heap.size
  block : ∀ k, k < w.heap.size → ¬ S k → w'.heap[k]? = w.heap[k]?

def Non : Nat → Prop := fun _ => False

theorem Fp.refl (S : Nat → Prop) (w : World) : Fp S w w := ⟨rfl, rfl, rfl, Nat.le_refl _, fun _ _ _ => rfl⟩
theorem Fp.trans {S T : Nat → Prop} {a b c : World} (h : Fp S a b) (g : Fp T b c) (hT : ∀ k, T k → S k ∨ a.heap.size ≤ k) : Fp S a c :=
  ⟨g.os.trans h.os, g.tape.trans h.tape, g.output.trans h.output, Nat.le_trans h.size g.size,
    fun k hk hS => (g.block k (Nat.lt_of_lt_of_le hk h.size) (fun ht => (hT k ht).elim hS (fun h1 => absurd hk (by omega)))).trans (h.block k hk hS)⟩
theorem Fp.then {S : Nat → Prop} {a b c : World} (h : Fp S a b) (g : Fp Non b c) : Fp S a c := h.trans g (fun _ h => h.elim)
theorem Fp.same {S : Nat → Prop} {a b c : World} (h : Fp S a b) (g : Fp S b c) : Fp S a c := h.trans g (fun _ h => .inl h)
theorem Fp.mono {S T : Nat → Prop} {a b : World} (h : Fp S a b) (hS : ∀ k, S k → T k) : Fp T a b := ⟨h.os, h.tape, h.output, h.size, fun k hk ht => h.block k hk (fun hs => ht (hS k hs))⟩
theorem Fp.any {S : Nat → Prop} {a b : World} (h : Fp Non a b) : Fp S a b := h.mono (fun _ h => h.elim)
theorem Fp.drewN {S : Nat → Prop} {a b : World} (h : Fp S a b) (n : Nat) : Fp S a (b.drewN n) := ⟨h.os, h.tape, h.output, h.size, h.block⟩
theorem Fp.drew {S : Nat → Prop} {a b : World} (h : Fp S a b) : Fp S a b.drew := ⟨h.os, h.tape, h.output, h.size, h.block⟩
theorem Fp.below {S : Nat → Prop} {a b : World} (h : Fp S a b) {lo : Nat} (hS : ∀ k, S k → lo ≤ k) (hl : lo ≤ a.heap.size) : Below lo a b :=
  ⟨h.os, h.tape, h.output, h.size, fun k hk => h.block k (by omega) (fun hs => by have := hS k hs; omega)⟩
theorem Fp.of_below {a b : World} (h : Below a.heap.size a b) : Fp Non a b := ⟨h.os, h.tape, h.output, h.size, fun k hk _ => h.block k hk⟩
theorem Fp.grown {S : Nat → Prop} {a b c : World} {row : Option Nat} (h : Fp S a b) (g : b.grownBy c row) (hr : ∀ k, row = some k → S k ∨ a.heap.size ≤ k) : Fp S a c :=
  ⟨g.os.trans h.os, g.tape.trans h.tape, g.output.trans h.output, Nat.le_trans h.size g.size,
    fun k hk hS => (g.block k (Nat.lt_of_lt_of_le hk h.size) (fun ht => (hr k ht.symm).elim hS (fun h1 => absurd hk (by omega)))).trans (h.block k hk hS)⟩
theorem Fp.alloc {S : Nat → Prop} {a b : World} (h : Fp S a b) (o : Obj) : Fp S a (b.alloc o) := h.grown (World.grownBy_alloc b o none) (fun _ h => by cases h)
theorem Fp.setCell {S : Nat → Prop} {a b : World} (h : Fp S a b) {p : Addr} (hp : S p.block ∨ a.heap.size ≤ p.block) (v : Value) : Fp S a (b.setCell p v) := by
  refine ⟨h.os, h.tape, h.output, by simpa [World.setCell] using h.size, fun k hk hS => ?_⟩
  have hne : k ≠ p.block := by rintro rfl; exact hp.elim hS (fun h1 => absurd hk (by omega))
  have : (b.setCell p v).heap[k]? = b.heap[k]? := by
    unfold World.setCell
    simp [Array.getElem?_modify, Ne.symm hne]
  exact this.trans (h.block k hk hS)
theorem Fp.heap {S : Nat → Prop} {a b : World} (h : Fp S a b) {k : Nat} {o : Obj} (hk : a.heap[k]? = some o) (hS : ¬ S k) : b.heap[k]? = some o := by
  rw [h.block k (Array.getElem?_eq_some_iff.1 hk).1 hS]; exact hk
theorem Fp.cell {S : Nat → Prop} {a b : World} (h : Fp S a b) {p : Addr} {v : Value} (hc : a.cell? p = some v) (hS : ¬ S p.block) : b.cell? p = some v :=
  (World.cell?_of_block (h.block p.block (World.block_lt_of_cell? a p hc) hS)).trans hc
theorem Fp.owns {S : Nat → Prop} {a b : World} (h : Fp S a b) {lo : Nat} {e : TypeId} {size : Nat} {v : Value} {n : Nat} {xs : List Value} (ho : a.ownsRow lo e size v n xs) (hS : ∀ k, v.ownBlock = some k → ¬ S k) : b.ownsRow lo e size v n xs := by
  refine ⟨ho.1, ?_⟩
  rcases ho.2 with hn | ⟨g, cap, cur, rfl, hb, hgg, rest⟩
  · exact .inl hn
  · exact .inr ⟨g, cap, cur, rfl, hb, h.heap hgg (hS g rfl), rest⟩


theorem Gr.fp {w w' : World} (h : Gr w w') : Fp Non w w' := Fp.of_below h
abbrev TN : TypeId := 109
/-- A node's cells. -/
def ndC (n : Nd) : List Value := [strV n.path, strV n.data, .int .i64 n.ver, .int .i64 n.turn, .int .i64 n.own]
def ndV (n : Nd) : Value := .agg #[strV n.path, strV n.data, .int .i64 n.ver, .int .i64 n.turn, .int .i64 n.own]
/-- A node at a place. -/
structure NdAt (w : World) (g o : Nat) (n : Nd) : Prop where
  c0 : w.cell? ⟨g, o, none⟩ = some (strV n.path)
  c1 : w.cell? ⟨g, o + 1, none⟩ = some (strV n.data)
  c2 : w.cell? ⟨g, o + 2, none⟩ = some (.int .i64 n.ver)
  c3 : w.cell? ⟨g, o + 3, none⟩ = some (.int .i64 n.turn)
  c4 : w.cell? ⟨g, o + 4, none⟩ = some (.int .i64 n.own)
theorem NdAt.keep {w w' : World} {g o : Nat} {n : Nd} (h : NdAt w g o n) {S : Nat → Prop} (f : Fp S w w') (hS : ¬ S g) : NdAt w' g o n :=
  ⟨f.cell h.c0 hS, f.cell h.c1 hS, f.cell h.c2 hS, f.cell h.c3 hS, f.cell h.c4 hS⟩
theorem NdAt.get {w : World} {g o : Nat} {n : Nd} (h : NdAt w g o n) : ∀ j v, (ndC n)[j]? = some v → w.cell? ((⟨g, o, none⟩ : Addr).add j) = some v := by
  intro j v hv
  rw [Addr.add_lit]
  match j, hv with
  | 0, hv => rw [← Option.some.inj hv]; exact h.c0
  | 1, hv => rw [← Option.some.inj hv]; exact h.c1
  | 2, hv => rw [← Option.some.inj hv]; exact h.c2
  | 3, hv => rw [← Option.some.inj hv]; exact h.c3
  | 4, hv => rw [← Option.some.inj hv]; exact h.c4
  | j + 5, hv => simp [ndC] at hv

/-- A slice that reads as nodes. -/
structure Ns (w : World) (v : Value) (l : List Nd) : Prop where
  ex : ∃ ao cap, v = .slice ao l.length cap ∧ l.length ≤ cap ∧ cap ≤ maxLen ∧ (l = [] ∨ ∃ g o, ao = some ⟨g, o, none⟩ ∧ g < w.heap.size ∧ ∀ i (h : i < l.length), NdAt w g (o + i * 5) l[i])
theorem Ns.keep {w w' : World} {v : Value} {l : List Nd} (h : Ns w v l) {S : Nat → Prop} (f : Fp S w w') (hS : ∀ k, v.ownBlock = some k → ¬ S k) : Ns w' v l := by
  obtain ⟨ao, cap, rfl, h1, h2, h3⟩ := h.ex
  refine ⟨ao, cap, rfl, h1, h2, ?_⟩
  rcases h3 with h3 | ⟨g, o, rfl, hg, hc⟩
  · exact .inl h3
  · exact .inr ⟨g, o, rfl, Nat.lt_of_lt_of_le hg f.size, fun i hi => (hc i hi).keep f (hS g rfl)⟩
theorem Ns.non {w w' : World} {v : Value} {l : List Nd} (h : Ns w v l) (f : Fp Non w w') : Ns w' v l := h.keep f (fun _ _ h => h)
theorem Ns.nil (w : World) : Ns w (.slice none 0 0) [] := ⟨none, 0, rfl, Nat.le_refl _, Nat.zero_le _, .inl rfl⟩
theorem Ns.shape {w : World} {v : Value} {l : List Nd} (h : Ns w v l) : ∃ ao cap, v = .slice ao l.length cap := by
  obtain ⟨ao, cap, rfl, _⟩ := h.ex; exact ⟨ao, cap, rfl⟩
theorem Ns.at {w : World} {v : Value} {l : List Nd} (h : Ns w v l) (h0 : 0 < l.length) : ∃ g o cap, v = .slice (some ⟨g, o, none⟩) l.length cap ∧ l.length ≤ cap ∧ cap ≤ maxLen ∧ g < w.heap.size ∧ ∀ i (h : i < l.length), NdAt w g (o + i * 5) l[i] := by
  obtain ⟨ao, cap, rfl, h1, h2, h3⟩ := h.ex
  rcases h3 with h3 | ⟨g, o, rfl, hg, hc⟩
  · subst h3; simp at h0
  · exact ⟨g, o, cap, rfl, h1, h2, hg, hc⟩
theorem Ns.take {w : World} {g o n cap : Nat} {l : List Nd} (h : Ns w (.slice (some ⟨g, o, none⟩) n cap) l) (k c : Nat) (hk : k ≤ l.length) (hkc : k ≤ c) (hc : c ≤ maxLen) (h0 : g < w.heap.size) : Ns w (.slice (some ⟨g, o, none⟩) k c) (l.take k) := by
  obtain ⟨ao, cap', e, h1, h2, h3⟩ := h.ex
  injection e with e1 e2 e3
  have hl : (l.take k).length = k := by rw [List.length_take]; omega
  refine ⟨some ⟨g, o, none⟩, c, by rw [hl], by rw [hl]; exact hkc, hc, ?_⟩
  rcases h3 with h3 | ⟨g', o', e4, hg, hcell⟩
  · subst h3; exact .inl (by simp)
  · rw [e4] at e1; injection e1 with e1; injection e1 with e5 e6; subst e5 e6
    refine .inr ⟨g, o, rfl, h0, fun i hi => ?_⟩
    rw [List.getElem_take]
    exact hcell i (by rw [hl] at hi; omega)

theorem fp_setRow (w : World) (g : Nat) (cs : Array Value) : Fp (fun k => k = g) w (w.setRow g cs) :=
  ⟨rfl, rfl, rfl, by simp [World.setRow], fun k _ hne => setRow_other w g k cs hne⟩

end Go.Proofs.Ytdfnfkknbjageaa

/- Right: is it a tree? -/
namespace Go.Proofs.Ytdfnfkknbjageaa
set_option maxRecDepth 20000
open Go.RowKit Pm

/-- Paths are no longer than a machine holds. -/
def Sp (l : List Nd) : Prop := ∀ n ∈ l, n.path.length ≤ 140737488355328

end Go.Proofs.Ytdfnfkknbjageaa

/- Right, whole; what asks of nodes: IndexFunc, Find, ContainsFunc, childOf. -/
namespace Go.Proofs.Ytdfnfkknbjageaa
set_option maxRecDepth 20000
open Go.RowKit Pm

def zeroNd : Nd := ⟨[], [], 0, 0, 0⟩

end Go.Proofs.Ytdfnfkknbjageaa

/- What is so, and stays so. -/
namespace Go.Proofs.Ytdfnfkknbjageaa
set_option maxRecDepth 20000
open Go.RowKit Pm

theorem fp_alloc (W : World) (o : Obj) : Fp Non W (W.alloc o) := (Fp.refl Non W).alloc o
end Go.Proofs.Ytdfnfkknbjageaa

/- Clone. -/
namespace Go.Proofs.Ytdfnfkknbjageaa
set_option maxRecDepth 20000
open Go.RowKit Pm

theorem wpList_app {P : Program} {w : World} {ops : Array Oper} {rest : List Oper} {o : Oper} {a : Act} {Q : Exit → Act → World → Prop} (hgd : o.guard = none) (s x : Operand) (t u : TypeId)
    (ho : o.op = .call { callee := .builtin .append, args := #[s, x], argTypes := #[t, u] }) (v xv : Value) (hs : a.eval s = v) (hx : a.eval x = xv) (R : Value → World → Prop)
    (hr : ∃ v' w', (Builtin.append_ #[t, u] o.type #[v, xv]).run P w = .ok v' w' ∧ R v' w') (h : ∀ v' w', R v' w' → wpList P ops Q rest (a.put o.dst v') w') : wpList P ops Q (o :: rest) a w := by
  refine wpList_plain hgd fun K hK => ?_
  obtain ⟨v', w', hr, h2⟩ := hr
  unfold Oper.wp execOp
  simp only [ho, resolve, invoke, builtin, Sem.run_bind, Sem.run_pure, Result.andThen_ok, List.map_toArray, List.map_cons, List.map_nil, hs, hx, hr]
  exact hK _ _ (h v' w' h2)


end Go.Proofs.Ytdfnfkknbjageaa

/- slices.Insert, slices.Delete at nodes. -/
namespace Go.Proofs.Ytdfnfkknbjageaa
set_option maxRecDepth 20000
open Go.RowKit Pm

theorem step_copy {P : Program} {ops : Array Oper} {o : Oper} {a : Act} {w : World} {K : Act → World → Prop} {Q : Exit → Act → World → Prop} {E : Prop} (hgd : o.guard = none) (s x : Operand) (t u : TypeId)
    (ho : o.op = .call { callee := .builtin .copy, args := #[s, x], argTypes := #[t, u] }) (v xv : Value) (hs : a.eval s = v) (hx : a.eval x = xv) (R : Value → World → Prop)
    (hr : ∃ v' w', (Builtin.copy_ #[t, u] o.type #[v, xv]).run P w = .ok v' w' ∧ R v' w') (h : ∀ v' w', R v' w' → K (a.put o.dst v') w') :
    if Region.wanted o (yielded ops a.tmps) = true then Oper.wp P o a w K Q else E := by
  have hw : Region.wanted o (yielded ops a.tmps) = true := by simp [Region.wanted, hgd]
  rw [if_pos hw]
  obtain ⟨v', w', hr, h2⟩ := hr
  unfold Oper.wp execOp
  simp only [ho, resolve, invoke, builtin, Sem.run_bind, Sem.run_pure, Result.andThen_ok, List.map_toArray, List.map_cons, List.map_nil, hs, hx, hr]
  exact h v' w' h2

end Go.Proofs.Ytdfnfkknbjageaa

/- slices.Insert, whole; slices.Delete at nodes. -/
namespace Go.Proofs.Ytdfnfkknbjageaa
set_option maxRecDepth 20000
open Go.RowKit Pm

theorem step_app {P : Program} {ops : Array Oper} {o : Oper} {a : Act} {w : World} {K : Act → World → Prop} {Q : Exit → Act → World → Prop} {E : Prop} (hgd : o.guard = none) (s x : Operand) (t u : TypeId)
    (ho : o.op = .call { callee := .builtin .append, args := #[s, x], argTypes := #[t, u] }) (v xv : Value) (hs : a.eval s = v) (hx : a.eval x = xv) (R : Value → World → Prop)
    (hr : ∃ v' w', (Builtin.append_ #[t, u] o.type #[v, xv]).run P w = .ok v' w' ∧ R v' w') (h : ∀ v' w', R v' w' → K (a.put o.dst v') w') :
    if Region.wanted o (yielded ops a.tmps) = true then Oper.wp P o a w K Q else E := by
  have hw : Region.wanted o (yielded ops a.tmps) = true := by simp [Region.wanted, hgd]
  rw [if_pos hw]
  obtain ⟨v', w', hr, h2⟩ := hr
  unfold Oper.wp execOp
  simp only [ho, resolve, invoke, builtin, Sem.run_bind, Sem.run_pure, Result.andThen_ok, List.map_toArray, List.map_cons, List.map_nil, hs, hx, hr]
  exact h v' w' h2

end Go.Proofs.Ytdfnfkknbjageaa

/- Plain: mounts; what Right, Of, Begin, Flip make of them (gen_b.py, out of owned/XOa). Nothing of the program. -/
namespace Go.Proofs.Ytdfnfkknbjageaa
set_option maxRecDepth 20000
set_option linter.unusedVariables false
set_option linter.unusedSimpArgs false
namespace Pm

/-- A mount: Prefix, Group, Epoch, To. -/
structure Mt where
  d : Bs
  g : Int
  e : Int
  t : Int
deriving DecidableEq
def mt0 : Mt := ⟨[], 0, 0, 0⟩

def mxN : Int := 281474976710656
def okP (p : Bs) : Bool := (split p).isSome
def okE (e : Int) : Bool := decide (0 ≤ e ∧ e ≤ mxN)
def okG (a : Int) : Bool := decide (0 ≤ a ∧ a < 4)
def okM (x : Mt) : Bool := okP x.d && okG x.g && okG x.t && okE x.e
def mvM (x : Mt) : Bool := decide (x.t ≠ x.g)
abbrev UpM (l : List Mt) : Prop := l.Pairwise (fun a b => lt a.d b.d = true)
structure RtM (l : List Mt) : Prop where
  len : l.length ≤ 32
  ok : ∀ x ∈ l, okM x = true
  up : UpM l
  root : ∃ x r, l = x :: r ∧ x.d = [47]
def rightM (l : List Mt) : Bool := decide (l.length ≤ 32 ∧ (∀ x ∈ l, okM x = true) ∧ UpM l ∧ l.head?.map Mt.d = some [47])
theorem right_ifft (l : List Mt) : rightM l = true ↔ RtM l := by
  unfold rightM
  rw [decide_eq_true_eq]
  refine ⟨fun h => ⟨h.1, h.2.1, h.2.2.1, ?_⟩, fun h => ⟨h.len, h.ok, h.up, ?_⟩⟩
  · have := h.2.2.2
    cases l with
    | nil => cases this
    | cons x r => exact ⟨x, r, rfl, by simpa using this⟩
  · obtain ⟨x, r, rfl, e⟩ := h.root; simp [e]
theorem RtM.pos {l : List Mt} (h : RtM l) : 0 < l.length := by obtain ⟨x, r, rfl, _⟩ := h.root; simp
theorem upM_cons {y : Mt} {r : List Mt} : UpM (y :: r) ↔ (∀ a ∈ r, lt y.d a.d = true) ∧ UpM r := List.pairwise_cons
theorem UpM.at {l : List Mt} (h : UpM l) {i j : Nat} (hi : i < l.length) (hj : j < l.length) (hij : i < j) : lt l[i].d l[j].d = true := List.pairwise_iff_getElem.1 h i j hi hj hij

/-- Where the range of that very prefix is, or would come to. -/
def plM : List Mt → Bs → Nat
  | [], _ => 0
  | y :: r, p => if lt y.d p = true then plM r p + 1 else 0
def getM : List Mt → Bs → Option Mt
  | [], _ => none
  | y :: r, p => if y.d = p then some y else getM r p
def putM : List Mt → Mt → List Mt
  | [], x => [x]
  | y :: r, x => if lt y.d x.d = true then y :: putM r x else if y.d = x.d then x :: r else x :: y :: r
theorem plM_le (l : List Mt) (p : Bs) : plM l p ≤ l.length := by
  induction l with
  | nil => exact Nat.le_refl _
  | cons s r ih => unfold plM; split <;> simp <;> omega
theorem plM_of {l : List Mt} {n : Bs} {k : Nat} (hk : k ≤ l.length) (h1 : ∀ i (h : i < l.length), i < k → lt l[i].d n = true) (h2 : ∀ i (h : i < l.length), k ≤ i → lt l[i].d n = false) : plM l n = k := by
  induction l generalizing k with
  | nil => have : k = 0 := by simpa using hk
           subst this; rfl
  | cons s r ih =>
    unfold plM
    cases k with
    | zero => rw [if_neg (by have := h2 0 (by simp) (Nat.le_refl _); simpa using this)]
    | succ k =>
      rw [if_pos (by have := h1 0 (by simp) (Nat.succ_pos _); simpa using this)]
      rw [ih (k := k) (by simpa using hk) (fun i h hi => h1 (i + 1) (Nat.succ_lt_succ h) (by omega)) (fun i h hi => h2 (i + 1) (Nat.succ_lt_succ h) (by omega))]
theorem getM_some {l : List Mt} {p : Bs} {x : Mt} (h : getM l p = some x) : x ∈ l ∧ x.d = p := by
  induction l with
  | nil => cases h
  | cons y r ih =>
    unfold getM at h
    by_cases e : y.d = p
    · rw [if_pos e] at h; cases h; exact ⟨by simp, e⟩
    · rw [if_neg e] at h; exact ⟨List.mem_cons_of_mem _ (ih h).1, (ih h).2⟩
theorem getM_none {l : List Mt} {p : Bs} (h : getM l p = none) : ∀ x ∈ l, x.d ≠ p := by
  induction l with
  | nil => intro x hx; cases hx
  | cons y r ih =>
    unfold getM at h
    by_cases e : y.d = p
    · rw [if_pos e] at h; cases h
    · rw [if_neg e] at h
      intro x hx
      rcases List.mem_cons.1 hx with rfl | hx
      · exact e
      · exact ih h x hx
theorem getM_mem {l : List Mt} (hu : UpM l) {x : Mt} (h : x ∈ l) : getM l x.d = some x := by
  induction l with
  | nil => cases h
  | cons y r ih =>
    rw [upM_cons] at hu
    unfold getM
    rcases List.mem_cons.1 h with rfl | h
    · rw [if_pos rfl]
    · rw [if_neg (lt_ne (hu.1 x h)), ih hu.2 h]
theorem getM_no {l : List Mt} {p : Bs} (h : ∀ x ∈ l, x.d ≠ p) : getM l p = none := by
  cases e : getM l p with
  | none => rfl
  | some x => exact absurd (getM_some e).2 (h x (getM_some e).1)
theorem getM_place {l : List Mt} (h : UpM l) (p : Bs) : getM l p = if h : plM l p < l.length then (if l[plM l p].d = p then some l[plM l p] else none) else none := by
  induction l with
  | nil => rfl
  | cons s r ih =>
    rw [upM_cons] at h
    by_cases h1 : lt s.d p = true
    · have e : plM (s :: r) p = plM r p + 1 := by simp only [plM, if_pos h1]
      simp only [e, getM]
      rw [if_neg (lt_ne h1), ih h.2]
      by_cases h2 : plM r p < r.length
      · rw [dif_pos h2, dif_pos (by simpa using h2)]
        simp only [List.getElem_cons_succ]
      · rw [dif_neg h2, dif_neg (by simpa using h2)]
    · have e : plM (s :: r) p = 0 := by simp only [plM, if_neg h1]
      simp only [e, getM]
      rw [dif_pos (by simp)]
      simp only [List.getElem_cons_zero]
      by_cases h2 : s.d = p
      · rw [if_pos h2, if_pos h2]
      · rw [if_neg h2, if_neg h2]
        refine getM_no fun x hx e => ?_
        have := h.1 x hx
        rw [e] at this
        exact h1 this
theorem put_sett {l : List Mt} (hu : UpM l) {x : Mt} (h : (getM l x.d).isSome = true) : plM l x.d < l.length ∧ putM l x = l.set (plM l x.d) x := by
  induction l with
  | nil => cases h
  | cons y r ih =>
    rw [upM_cons] at hu
    by_cases h1 : lt y.d x.d = true
    · have hn : y.d ≠ x.d := lt_ne h1
      simp only [getM, if_neg hn] at h
      simp only [putM, plM, if_pos h1]
      have := ih hu.2 h
      exact ⟨by simp; exact this.1, by rw [this.2]; rfl⟩
    · simp only [putM, plM, if_neg h1]
      by_cases h2 : y.d = x.d
      · rw [if_pos h2]; exact ⟨by simp, rfl⟩
      · simp only [getM, if_neg h2] at h
        obtain ⟨z, hz⟩ := Option.isSome_iff_exists.1 h
        have := getM_some hz
        have h3 := hu.1 z this.1
        rw [this.2] at h3
        exact absurd h3 h1
theorem put_inst {l : List Mt} {x : Mt} (h : getM l x.d = none) : putM l x = l.take (plM l x.d) ++ x :: l.drop (plM l x.d) := by
  induction l with
  | nil => rfl
  | cons y r ih =>
    have h2 : y.d ≠ x.d := getM_none h y (by simp)
    simp only [getM, if_neg h2] at h
    by_cases h1 : lt y.d x.d = true
    · simp only [putM, plM, if_pos h1]
      rw [ih h]; simp
    · simp only [putM, plM, if_neg h1, if_neg h2]; simp
theorem mem_put {l : List Mt} (hu : UpM l) {x y : Mt} : y ∈ putM l x ↔ y = x ∨ (y ∈ l ∧ y.d ≠ x.d) := by
  induction l with
  | nil => simp [putM]
  | cons z r ih =>
    rw [upM_cons] at hu
    by_cases h1 : lt z.d x.d = true
    · simp only [putM, if_pos h1, List.mem_cons]
      rw [ih hu.2]
      constructor
      · rintro (rfl | rfl | ⟨h, k⟩)
        · exact .inr ⟨.inl rfl, lt_ne h1⟩
        · exact .inl rfl
        · exact .inr ⟨.inr h, k⟩
      · rintro (rfl | ⟨rfl | h, k⟩)
        · exact .inr (.inl rfl)
        · exact .inl rfl
        · exact .inr (.inr ⟨h, k⟩)
    · by_cases h2 : z.d = x.d
      · simp only [putM, if_neg h1, if_pos h2, List.mem_cons]
        constructor
        · rintro (rfl | h)
          · exact .inl rfl
          · exact .inr ⟨.inr h, fun e => by have := hu.1 y h; rw [h2, e, lt_irrefl] at this; cases this⟩
        · rintro (rfl | ⟨rfl | h, k⟩)
          · exact .inl rfl
          · exact absurd h2 k
          · exact .inr h
      · simp only [putM, if_neg h1, if_neg h2, List.mem_cons]
        have h3 : lt x.d z.d = true := lt_of (by simpa using h1) h2
        constructor
        · rintro (rfl | rfl | h)
          · exact .inl rfl
          · exact .inr ⟨.inl rfl, h2⟩
          · exact .inr ⟨.inr h, fun e => by have := lt_trans h3 (hu.1 y h); rw [e, lt_irrefl] at this; cases this⟩
        · rintro (rfl | ⟨rfl | h, k⟩)
          · exact .inl rfl
          · exact .inr (.inl rfl)
          · exact .inr (.inr h)
theorem up_put {l : List Mt} (hu : UpM l) (x : Mt) : UpM (putM l x) := by
  induction l with
  | nil => simp [putM, UpM]
  | cons z r ih =>
    have hu0 := hu
    rw [upM_cons] at hu
    by_cases h1 : lt z.d x.d = true
    · simp only [putM, if_pos h1]
      rw [upM_cons]
      refine ⟨fun y hy => ?_, ih hu.2⟩
      rcases (mem_put hu.2).1 hy with rfl | ⟨h, _⟩
      · exact h1
      · exact hu.1 y h
    · by_cases h2 : z.d = x.d
      · simp only [putM, if_neg h1, if_pos h2]
        rw [upM_cons]
        exact ⟨fun y hy => by rw [← h2]; exact hu.1 y hy, hu.2⟩
      · simp only [putM, if_neg h1, if_neg h2]
        have h3 : lt x.d z.d = true := lt_of (by simpa using h1) h2
        rw [upM_cons]
        refine ⟨fun y hy => ?_, hu0⟩
        rcases List.mem_cons.1 hy with rfl | hy
        · exact h3
        · exact lt_trans h3 (hu.1 y hy)
theorem len_put {l : List Mt} (hu : UpM l) (x : Mt) : (putM l x).length = if (getM l x.d).isSome = true then l.length else l.length + 1 := by
  by_cases h : (getM l x.d).isSome = true
  · rw [if_pos h, (put_sett hu h).2, List.length_set]
  · rw [if_neg h, put_inst (by simpa using h)]
    have := plM_le l x.d
    simp only [List.length_append, List.length_take, List.length_cons, List.length_drop]; omega
theorem get_put {l : List Mt} (hu : UpM l) (x : Mt) : getM (putM l x) x.d = some x := getM_mem (up_put hu x) ((mem_put hu).2 (.inl rfl))
theorem root_least {p : Bs} (h : okP p = true) : p = [47] ∨ lt [47] p = true := by
  unfold okP at h
  obtain ⟨ps, hs⟩ := Option.isSome_iff_exists.1 h
  obtain ⟨hP, rfl⟩ := (split_iff p ps).1 hs
  cases ps with
  | nil => exact .inl rfl
  | cons x r =>
    right
    have hx := (isPart_len (hP.2 x (by simp))).1
    cases x with
    | nil => simp at hx
    | cons c x => rfl
theorem right_put {l : List Mt} (h : RtM l) {x : Mt} (hx : okM x = true) (hr : (getM l x.d).isSome = true ∨ l.length < 32) : RtM (putM l x) := by
  have hp : okP x.d = true := by unfold okM at hx; simp only [Bool.and_eq_true] at hx; exact hx.1.1.1
  refine ⟨by rw [len_put h.up]; have := h.len; rcases hr with hr | hr
             · rw [if_pos hr]; exact this
             · split <;> omega,
   fun y hy => by rcases (mem_put h.up).1 hy with rfl | ⟨h1, _⟩
                  · exact hx
                  · exact h.ok y h1, up_put h.up x, ?_⟩
  obtain ⟨y, r, rfl, hy⟩ := h.root
  rcases root_least hp with e | e
  · exact ⟨x, r, by simp [putM, hy, e, lt_irrefl], e⟩
  · exact ⟨y, putM r x, by simp [putM, hy, e], hy⟩

/-! ### The mount of a directory -/
theorem split_joinP {p : Bs} {a : List Bs} (h : split p = some a) : p = joinP a ∧ Parts a := by
  have := (split_iff p a).1 h; exact ⟨this.2.symm, this.1⟩
theorem lt_prefixt : ∀ (a b : Bs), b ≠ [] → lt a (a ++ b) = true
  | [], c :: b, _ => rfl
  | [], [], h => absurd rfl h
  | x :: a, b, h => by rw [List.cons_append, lt_cons, lt_prefixt a b h]; simp
/-- Of two that have the same in them the lesser one is the shorter one. -/
theorem chain {d p q : Bs} (hp : inB d p = true) (hq : inB d q = true) (hl : p.length ≤ q.length) : p = q ∨ (lt p q = true ∧ p.length < q.length) := by
  obtain ⟨a, b, ha, hb, hab⟩ := in_some hp
  obtain ⟨a', c, ha', hc, hac⟩ := in_some hq
  rw [ha] at ha'
  injection ha' with ha'
  subst ha'
  obtain ⟨e1, P1⟩ := split_joinP hb
  obtain ⟨e2, P2⟩ := split_joinP hc
  have key : ∀ {b c : List Bs}, Parts b → Parts c → b <+: c → b ≠ c → lt (joinP b) (joinP c) = true ∧ (joinP b).length < (joinP c).length := by
    intro b c Pb Pc hbc hne
    obtain ⟨t, rfl⟩ := hbc
    have ht : t ≠ [] := fun e => hne (by rw [e, List.append_nil])
    obtain ⟨x, t, rfl⟩ : ∃ x t', t = x :: t' := by cases t with | nil => exact absurd rfl ht | cons x t => exact ⟨x, t, rfl⟩
    cases b with
    | nil =>
      have hx := (isPart_len (Pc.2 x (by simp))).1
      have e : joinP ([] ++ x :: t) = [47] ++ (x ++ flat t) := rfl
      rw [e]
      have h0 : x ++ flat t ≠ [] := by intro h; have := congrArg List.length h; simp at this; have := this.1; subst this; simp at hx
      exact ⟨lt_prefixt _ _ h0, by
        rw [List.length_append]
        have : 0 < (x ++ flat t).length := by cases h1 : x ++ flat t with | nil => exact absurd h1 h0 | cons _ _ => simp
        show (joinP []).length < _
        simp [joinP, jn] at this ⊢; omega⟩
    | cons y b =>
      have e : joinP (y :: b ++ x :: t) = joinP (y :: b) ++ flat (x :: t) := by
        rw [List.cons_append, joinP_cons, joinP_cons, flat_cons, flat_cons]
        unfold flat; simp
      have h0 : flat (x :: t) ≠ [] := by rw [flat_cons]; simp
      rw [e]
      exact ⟨lt_prefixt _ _ h0, by
        rw [List.length_append]
        have : 0 < (flat (x :: t)).length := by rw [flat_cons]; simp
        omega⟩
  rcases List.prefix_or_prefix_of_prefix hab hac with h | h
  · by_cases e : b = c
    · left; rw [e1, e2, e]
    · right; rw [e1, e2]; exact key P1 P2 h e
  · by_cases e : c = b
    · left; rw [e1, e2, e]
    · have := (key P2 P1 h e).2
      rw [← e1, ← e2] at this; omega
theorem chain_lt {d p q : Bs} (hp : inB d p = true) (hq : inB d q = true) (h : lt p q = true) : p.length < q.length := by
  by_cases hl : p.length ≤ q.length
  · rcases chain hp hq hl with e | e
    · exact absurd e (lt_ne h)
    · exact e.2
  · rcases chain hq hp (by omega) with e | e
    · exact absurd e.symm (lt_ne h)
    · rw [lt_asymm h] at e; cases e.1
def inx (l : List Mt) (d : Bs) (k : Nat) : Bool := match l[k]? with | some x => inB d x.d | none => false
theorem inx_at {l : List Mt} {d : Bs} {k : Nat} (h : k < l.length) : inx l d k = inB d l[k].d := by unfold inx; rw [List.getElem?_eq_getElem h]
def bk (l : List Mt) (d : Bs) : Nat → Option Nat
  | 0 => none
  | k + 1 => if inx l d k = true then some k else bk l d k
theorem bk_none {l : List Mt} {d : Bs} {n : Nat} (h : ∀ j, j < n → inx l d j = false) : bk l d n = none := by
  induction n with
  | zero => rfl
  | succ n ih =>
    unfold bk
    rw [if_neg (by rw [h n (Nat.lt_succ_self n)]; exact Bool.false_ne_true)]
    exact ih fun j hj => h j (by omega)
theorem bk_at {l : List Mt} {d : Bs} {n i : Nat} (hi : i < n) (h : inx l d i = true) (h2 : ∀ j, i < j → j < n → inx l d j = false) : bk l d n = some i := by
  induction n with
  | zero => omega
  | succ n ih =>
    unfold bk
    rcases Nat.lt_or_eq_of_le (show i ≤ n by omega) with e | e
    · rw [if_neg (by rw [h2 n e (Nat.lt_succ_self n)]; exact Bool.false_ne_true)]
      exact ih e fun j h1 h3 => h2 j h1 (by omega)
    · subst e; rw [if_pos h]
theorem bk_some {l : List Mt} {d : Bs} {n i : Nat} (h : bk l d n = some i) : i < n ∧ inx l d i = true := by
  induction n with
  | zero => cases h
  | succ n ih =>
    unfold bk at h
    by_cases e : inx l d n = true
    · rw [if_pos e] at h; cases h; exact ⟨Nat.lt_succ_self _, e⟩
    · rw [if_neg e] at h; exact ⟨Nat.lt_succ_of_lt (ih h).1, (ih h).2⟩
def idx : Option Nat → Int
  | none => -1
  | some k => (k : Int)
def ofR (l : List Mt) (d : Bs) : Option Nat := if rightM l = true then bk l d l.length else none
theorem ofR_lt {l : List Mt} {d : Bs} {i : Nat} (h : ofR l d = some i) : i < l.length := by
  unfold ofR at h
  split at h
  · exact (bk_some h).1
  · cases h
def pick (l : List Mt) (d : Bs) : Option Mt := (ofR l d).bind (l[·]?)
theorem pick_at {l : List Mt} {d : Bs} {i : Nat} (h : ofR l d = some i) : pick l d = some (l[i]'(ofR_lt h)) := by
  unfold pick; rw [h]; exact List.getElem?_eq_getElem _
theorem pick_none {l : List Mt} {d : Bs} (h : ofR l d = none) : pick l d = none := by unfold pick; rw [h]; rfl
theorem pick_filter {l : List Mt} (h : RtM l) (d : Bs) : pick l d = (l.filter (fun y => inB d y.d)).getLast? := by
  unfold pick ofR
  rw [if_pos ((right_ifft l).2 h)]
  have : ∀ k, k ≤ l.length → (bk l d k).bind (l[·]?) = ((l.take k).filter (fun y => inB d y.d)).getLast? := by
    intro k hk
    induction k with
    | zero => rfl
    | succ k ih =>
      have hk' : k < l.length := hk
      rw [List.take_succ_eq_append_getElem hk', List.filter_append]
      unfold bk
      rw [inx_at hk']
      cases e : inB d l[k].d with
      | true =>
        rw [if_pos rfl]
        simp [e, List.getElem?_eq_getElem hk']
      | false =>
        rw [if_neg Bool.false_ne_true, ih (by omega)]
        simp [e]
  rw [this l.length (Nat.le_refl _), List.take_length]
theorem last_put {l : List Mt} (x : Mt) (hu : UpM l) : (putM l x).getLast? = match l.getLast? with | some y => if lt x.d y.d = true then some y else some x | none => some x := by
  induction l with
  | nil => rfl
  | cons y r ih =>
    rw [upM_cons] at hu
    have hgl : ∀ {α : Type} (a : α) (s : List α), s ≠ [] → (a :: s).getLast? = s.getLast? := by
      intro α a s hs; cases s with | nil => exact absurd rfl hs | cons b s => rfl
    have hne : putM r x ≠ [] := by cases r with | nil => simp [putM] | cons z r => simp only [putM]; split <;> (try split) <;> simp
    by_cases h1 : lt y.d x.d = true
    · simp only [putM, if_pos h1]
      rw [hgl _ _ hne, ih hu.2]
      cases r with
      | nil => simp [lt_asymm h1]
      | cons z r => rfl
    · by_cases h2 : y.d = x.d
      · simp only [putM, if_neg h1, if_pos h2]
        cases r with
        | nil => simp [h2, lt_irrefl]
        | cons z r =>
          rw [hgl x (z :: r) (by simp), hgl y (z :: r) (by simp)]
          obtain ⟨u, hu2⟩ : ∃ u, (z :: r).getLast? = some u := ⟨_, List.getLast?_eq_some_getLast (by simp)⟩
          rw [hu2]
          have hm : u ∈ z :: r := List.mem_of_getLast? hu2
          simp only
          rw [if_pos (by rw [← h2]; exact hu.1 u hm)]
      · have h3 : lt x.d y.d = true := lt_of (by simpa using h1) h2
        simp only [putM, if_neg h1, if_neg h2]
        rw [hgl _ _ (by simp)]
        obtain ⟨u, hu2⟩ : ∃ u, (y :: r).getLast? = some u := ⟨_, List.getLast?_eq_some_getLast (by simp)⟩
        rw [hu2]
        have hm : u ∈ y :: r := List.mem_of_getLast? hu2
        simp only
        rw [if_pos (by
          rcases List.mem_cons.1 hm with rfl | hm
          · exact h3
          · exact lt_trans h3 (hu.1 u hm))]
theorem filter_put {l : List Mt} (x : Mt) (q : Bs → Bool) (hu : UpM l) : (putM l x).filter (fun y => q y.d) = if q x.d = true then putM (l.filter (fun y => q y.d)) x else l.filter (fun y => q y.d) := by
  have hput : ∀ m : List Mt, (∀ y ∈ m, lt x.d y.d = true) → putM m x = x :: m := by
    intro m hm
    cases m with
    | nil => rfl
    | cons z m =>
      have := hm z (by simp)
      simp only [putM]
      rw [if_neg (by rw [lt_asymm this]; exact Bool.false_ne_true), if_neg (fun e => by rw [e, lt_irrefl] at this; cases this)]
  induction l with
  | nil => simp only [putM, List.filter_nil]; cases e : q x.d <;> simp [e]
  | cons y r ih =>
    rw [upM_cons] at hu
    have hi := ih hu.2
    by_cases h1 : lt y.d x.d = true
    · simp only [putM, if_pos h1, List.filter_cons, hi]
      cases e : q y.d <;> cases e2 : q x.d <;> simp [putM, h1]
    · by_cases h2 : y.d = x.d
      · simp only [putM, if_neg h1, if_pos h2, List.filter_cons]
        rw [h2]
        cases e2 : q x.d with
        | true => simp [putM, h2, lt_irrefl]
        | false => simp
      · have h3 : lt x.d y.d = true := lt_of (by simpa using h1) h2
        simp only [putM, if_neg h1, if_neg h2]
        rw [List.filter_cons]
        cases e2 : q x.d with
        | true =>
          simp only [if_true]
          rw [hput]
          intro z hz
          have := (List.mem_filter.1 hz).1
          rcases List.mem_cons.1 this with rfl | hm
          · exact h3
          · exact lt_trans h3 (hu.1 z hm)
        | false => simp
theorem pick_put {l : List Mt} {x : Mt} (h : RtM l) (h2 : RtM (putM l x)) (d : Bs) :
    pick (putM l x) d = if inB d x.d = true then (match pick l d with | some y => if lt x.d y.d = true then some y else some x | none => some x) else pick l d := by
  rw [pick_filter h2, pick_filter h, filter_put x (fun p => inB d p) h.up]
  split
  · rw [last_put _ (h.up.filter _)]
  · rfl
/-! ### Which one, Begin, Flip -/
theorem findM_eq {l : List Mt} {q : Mt → Bool} {z : Int} (h : (z = -1 ∧ ∀ n ∈ l, q n = false) ∨ ∃ i, z = ((i : Nat) : Int) ∧ ∃ h : i < l.length, q l[i] = true ∧ ∀ j (hj : j < l.length), j < i → q l[j] = false) : z = idx (l.findIdx? q) := by
  rcases h with ⟨rfl, h⟩ | ⟨i, rfl, hi, hq, hb⟩
  · rw [List.findIdx?_eq_none_iff.2 h]; rfl
  · have : l.findIdx? q = some i := List.findIdx?_eq_some_iff_getElem.2 ⟨hi, hq, fun j hj => by rw [hb j (by omega) hj]; exact Bool.false_ne_true⟩
    rw [this]; rfl
def exM (l : List Mt) (p : Bs) : Option Nat := l.findIdx? (fun m => decide (m.d = p))
theorem exM_some {l : List Mt} {p : Bs} {i : Nat} (h : exM l p = some i) : ∃ h : i < l.length, l[i].d = p := by
  obtain ⟨h1, h2, _⟩ := List.findIdx?_eq_some_iff_getElem.1 h
  exact ⟨h1, by simpa using h2⟩
theorem exM_get {l : List Mt} (p : Bs) : getM l p = (exM l p).bind (l[·]?) := by
  induction l with
  | nil => rfl
  | cons y r ih =>
    unfold exM at ih ⊢
    rw [List.findIdx?_cons]
    unfold getM
    by_cases e : y.d = p
    · simp [e]
    · simp only [if_neg e, decide_eq_false e, Bool.false_eq_true, if_false]
      rw [ih]
      cases List.findIdx? (fun m => decide (m.d = p)) r with
      | none => rfl
      | some i => simp
theorem exM_at {l : List Mt} {p : Bs} {i : Nat} (h : exM l p = some i) : getM l p = some (l[i]'(exM_some h).1) := by
  rw [exM_get, h]; exact List.getElem?_eq_getElem _
theorem exM_no {l : List Mt} {p : Bs} (h : exM l p = none) : getM l p = none := by rw [exM_get, h]; rfl
/-- Does something near move? -/
def nearM (l : List Mt) (p : Bs) : Bool := l.any (fun m => mvM m && (inB m.d p || inB p m.d))
/-- Why nothing can begin: the mount of the prefix, that very one. -/
def rfs (l : List Mt) (p : Bs) (to : Int) : Int :=
  if nearM l p = true then 131 else
  match pick l p with
  | none => 0
  | some y => if y.g = to then 61 else if (getM l p).isNone = true ∧ l.length = 32 ∨ y.e = mxN then 2 else 0
def mayM (l : List Mt) (p : Bs) (to : Int) : Bool := rightM l && okP p && okG to
structure Bg where
  l : List Mt
  m : Mt
  e : Int
deriving DecidableEq
/-- What begins to move. -/
def newM (l : List Mt) (p : Bs) (to : Int) : Mt := match pick l p with | none => mt0 | some y => ⟨p, y.g, y.e, to⟩
def bgn (l : List Mt) (p : Bs) (to : Int) : Bg :=
  if mayM l p to = true then
    match getM l p with
    | some y => if mvM y = true ∧ y.t = to then ⟨l, y, 0⟩ else if rfs l p to = 0 then ⟨putM l (newM l p to), newM l p to, 0⟩ else ⟨l, mt0, rfs l p to⟩
    | none => if rfs l p to = 0 then ⟨putM l (newM l p to), newM l p to, 0⟩ else ⟨l, mt0, rfs l p to⟩
  else ⟨[], mt0, 1⟩
structure Fl where
  l : List Mt
  e : Int
deriving DecidableEq
def flp (l : List Mt) (p : Bs) (ep to : Int) : Fl :=
  if mayM l p to = true then
    match getM l p with
    | none => ⟨l, 133⟩
    | some y => if y.t = to then (if mvM y = true ∧ y.e = ep ∧ ep < mxN then ⟨putM l ⟨p, to, ep + 1, to⟩, 0⟩ else if mvM y = false ∧ y.e = ep + 1 then ⟨l, 0⟩ else ⟨l, 133⟩) else ⟨l, 133⟩
  else ⟨[], 1⟩

end Pm
end Go.Proofs.Ytdfnfkknbjageaa

/- Rows of api.Mount: slices of them, rows of the call's own; slices.Clone (gen_b.py) -/
namespace Go.Proofs.Ytdfnfkknbjageaa
set_option maxRecDepth 20000
set_option linter.unusedVariables false
set_option linter.unusedSimpArgs false
open Go.RowKit Pm

abbrev TM : TypeId := 55
abbrev TLM : TypeId := 22
/-- A node's cells. -/
def mtC (n : Mt) : List Value := [strV n.d, .int .i64 n.g, .int .i64 n.e, .int .i64 n.t]
def mtV (n : Mt) : Value := .agg #[strV n.d, .int .i64 n.g, .int .i64 n.e, .int .i64 n.t]
def rowsM (l : List Mt) : List Value := l.flatMap mtC
theorem mtC_len (n : Mt) : (mtC n).length = 4 := rfl
theorem rowsM_cons (n : Mt) (l : List Mt) : rowsM (n :: l) = mtC n ++ rowsM l := by simp [rowsM]
theorem rowsM_app (a b : List Mt) : rowsM (a ++ b) = rowsM a ++ rowsM b := by simp [rowsM]
theorem rowsM_len (l : List Mt) : (rowsM l).length = l.length * 4 := by
  induction l with
  | nil => rfl
  | cons n l ih => rw [rowsM_cons, List.length_append, mtC_len, ih, List.length_cons]; omega
theorem rowsM_get (l : List Mt) (i j : Nat) (hi : i < l.length) (hj : j < 4) : (rowsM l)[i * 4 + j]? = (mtC l[i])[j]? := by
  induction l generalizing i with
  | nil => simp at hi
  | cons n l ih =>
    rw [rowsM_cons]
    cases i with
    | zero => rw [List.getElem?_append_left (by rw [mtC_len]; omega)]; simp
    | succ i =>
      rw [List.getElem?_append_right (by rw [mtC_len]; omega), mtC_len, show (i + 1) * 4 + j - 4 = i * 4 + j from by omega, ih i (by simpa using hi)]
      simp
theorem rowsM_one (l : List Mt) : ∀ u ∈ rowsM l, u.oneCell' = true := by
  intro u hu
  unfold rowsM at hu
  rw [List.mem_flatMap] at hu
  obtain ⟨n, _, hu⟩ := hu
  simp only [mtC, List.mem_cons, List.not_mem_nil, or_false] at hu
  rcases hu with rfl | rfl | rfl | rfl <;> rfl
theorem rowsM_take (l : List Mt) (k : Nat) : (rowsM l).take (k * 4) = rowsM (l.take k) := by
  induction l generalizing k with
  | nil => simp [rowsM]
  | cons n l ih =>
    cases k with
    | zero => simp [rowsM]
    | succ k => rw [List.take_succ_cons, rowsM_cons, rowsM_cons, ← ih, List.take_append, mtC_len, List.take_of_length_le (by rw [mtC_len]; omega), show (k + 1) * 4 - 4 = k * 4 from by omega]
/-- A node at a place. -/
structure NdAtM (w : World) (g o : Nat) (n : Mt) : Prop where
  c0 : w.cell? ⟨g, o, none⟩ = some (strV n.d)
  c1 : w.cell? ⟨g, o + 1, none⟩ = some (.int .i64 n.g)
  c2 : w.cell? ⟨g, o + 2, none⟩ = some (.int .i64 n.e)
  c3 : w.cell? ⟨g, o + 3, none⟩ = some (.int .i64 n.t)
theorem NdAtM.keep {w w' : World} {g o : Nat} {n : Mt} (h : NdAtM w g o n) {S : Nat → Prop} (f : Fp S w w') (hS : ¬ S g) : NdAtM w' g o n :=
  ⟨ f.cell h.c0 hS, f.cell h.c1 hS, f.cell h.c2 hS, f.cell h.c3 hS⟩
theorem NdAtM.get {w : World} {g o : Nat} {n : Mt} (h : NdAtM w g o n) : ∀ j v, (mtC n)[j]? = some v → w.cell? ((⟨g, o, none⟩ : Addr).add j) = some v := by
  intro j v hv
  rw [Addr.add_lit]
  match j, hv with
  | 0, hv => rw [← Option.some.inj hv]; exact h.c0
  | 1, hv => rw [← Option.some.inj hv]; exact h.c1
  | 2, hv => rw [← Option.some.inj hv]; exact h.c2
  | 3, hv => rw [← Option.some.inj hv]; exact h.c3
  | j + 4, hv => simp [mtC] at hv

/-- A slice that reads as nodes. -/
structure NsM (w : World) (v : Value) (l : List Mt) : Prop where
  ex : ∃ ao cap, v = .slice ao l.length cap ∧ l.length ≤ cap ∧ cap ≤ maxLen ∧ (l = [] ∨ ∃ g o, ao = some ⟨g, o, none⟩ ∧ g < w.heap.size ∧ ∀ i (h : i < l.length), NdAtM w g (o + i * 4) l[i])
theorem NsM.keep {w w' : World} {v : Value} {l : List Mt} (h : NsM w v l) {S : Nat → Prop} (f : Fp S w w') (hS : ∀ k, v.ownBlock = some k → ¬ S k) : NsM w' v l := by
  obtain ⟨ao, cap, rfl, h1, h2, h3⟩ := h.ex
  refine ⟨ao, cap, rfl, h1, h2, ?_⟩
  rcases h3 with h3 | ⟨g, o, rfl, hg, hc⟩
  · exact .inl h3
  · exact .inr ⟨g, o, rfl, Nat.lt_of_lt_of_le hg f.size, fun i hi => (hc i hi).keep f (hS g rfl)⟩
theorem NsM.non {w w' : World} {v : Value} {l : List Mt} (h : NsM w v l) (f : Fp Non w w') : NsM w' v l := h.keep f (fun _ _ h => h)
theorem NsM.nil (w : World) : NsM w (.slice none 0 0) [] := ⟨none, 0, rfl, Nat.le_refl _, Nat.zero_le _, .inl rfl⟩
theorem NsM.shape {w : World} {v : Value} {l : List Mt} (h : NsM w v l) : ∃ ao cap, v = .slice ao l.length cap := by
  obtain ⟨ao, cap, rfl, _⟩ := h.ex; exact ⟨ao, cap, rfl⟩
theorem NsM.at {w : World} {v : Value} {l : List Mt} (h : NsM w v l) (h0 : 0 < l.length) : ∃ g o cap, v = .slice (some ⟨g, o, none⟩) l.length cap ∧ l.length ≤ cap ∧ cap ≤ maxLen ∧ g < w.heap.size ∧ ∀ i (h : i < l.length), NdAtM w g (o + i * 4) l[i] := by
  obtain ⟨ao, cap, rfl, h1, h2, h3⟩ := h.ex
  rcases h3 with h3 | ⟨g, o, rfl, hg, hc⟩
  · subst h3; simp at h0
  · exact ⟨g, o, cap, rfl, h1, h2, hg, hc⟩
theorem NsM.take {w : World} {g o n cap : Nat} {l : List Mt} (h : NsM w (.slice (some ⟨g, o, none⟩) n cap) l) (k c : Nat) (hk : k ≤ l.length) (hkc : k ≤ c) (hc : c ≤ maxLen) (h0 : g < w.heap.size) : NsM w (.slice (some ⟨g, o, none⟩) k c) (l.take k) := by
  obtain ⟨ao, cap', e, h1, h2, h3⟩ := h.ex
  injection e with e1 e2 e3
  have hl : (l.take k).length = k := by rw [List.length_take]; omega
  refine ⟨some ⟨g, o, none⟩, c, by rw [hl], by rw [hl]; exact hkc, hc, ?_⟩
  rcases h3 with h3 | ⟨g', o', e4, hg, hcell⟩
  · subst h3; exact .inl (by simp)
  · rw [e4] at e1; injection e1 with e1; injection e1 with e5 e6; subst e5 e6
    refine .inr ⟨g, o, rfl, h0, fun i hi => ?_⟩
    rw [List.getElem_take]
    exact hcell i (by rw [hl] at hi; omega)

/-- A row of the call's own: block g has room for cap nodes, and begins with l. -/
structure NrM (w : World) (g cap : Nat) (l : List Mt) : Prop where
  ex : ∃ rest, w.heap[g]? = some (.cells (rowsM l ++ rest).toArray TM (0, 0)) ∧ l.length * 4 + rest.length = cap * 4
  room : l.length ≤ cap
  most : cap ≤ maxLen
theorem NrM.lt {w : World} {g cap : Nat} {l : List Mt} (h : NrM w g cap l) : g < w.heap.size := by
  obtain ⟨r, h, _⟩ := h.ex; exact (Array.getElem?_eq_some_iff.1 h).1
theorem NrM.keep {w w' : World} {g cap : Nat} {l : List Mt} (h : NrM w g cap l) {S : Nat → Prop} (f : Fp S w w') (hS : ¬ S g) : NrM w' g cap l := by
  obtain ⟨r, h1, h2⟩ := h.ex; exact ⟨⟨r, f.heap h1 hS, h2⟩, h.room, h.most⟩
theorem NrM.cell {w : World} {g cap : Nat} {l : List Mt} (h : NrM w g cap l) (i j : Nat) (hi : i < l.length) (hj : j < 4) : w.cell? ⟨g, i * 4 + j, none⟩ = (mtC l[i])[j]? := by
  obtain ⟨r, h1, _⟩ := h.ex
  rw [cell_of_row w g _ _ TM (0, 0) h1]
  simp only [List.getElem?_toArray]
  rw [List.getElem?_append_left (by rw [rowsM_len]; omega), rowsM_get l i j hi hj]
theorem NrM.nd {w : World} {g cap : Nat} {l : List Mt} (h : NrM w g cap l) (i : Nat) (hi : i < l.length) : NdAtM w g (0 + i * 4) l[i] := by
  rw [Nat.zero_add]
  exact ⟨ h.cell i 0 hi (by omega), h.cell i 1 hi (by omega), h.cell i 2 hi (by omega), h.cell i 3 hi (by omega)⟩
theorem NrM.ns {w : World} {g cap : Nat} {l : List Mt} (h : NrM w g cap l) : NsM w (.slice (some ⟨g, 0, none⟩) l.length cap) l :=
  ⟨_, cap, rfl, h.room, h.most, .inr ⟨g, 0, rfl, h.lt, h.nd⟩⟩
theorem NrM.frozen {w : World} {g cap : Nat} {l : List Mt} (h : NrM w g cap l) (o : Nat) : w.frozen? ⟨g, o, none⟩ = false := by
  obtain ⟨r, h1, _⟩ := h.ex; simp [World.frozen?, h1]
theorem NrM.owns {w : World} {g cap : Nat} {l : List Mt} (h : NrM w g cap l) {lo : Nat} (hlo : lo ≤ g) : w.ownsRow lo TM 4 (.slice (some ⟨g, 0, none⟩) l.length cap) l.length (rowsM l) := by
  obtain ⟨r, h1, h2⟩ := h.ex
  refine ⟨rowsM_len l, .inr ⟨g, cap, _, rfl, hlo, h1, h.room, h.most, by simp [rowsM_len]; omega, ?_⟩⟩
  simp only
  rw [← rowsM_len l]; exact List.take_left
theorem NrM.of_owns {w : World} {lo g cap n : Nat} {l : List Mt} (h : w.ownsRow lo TM 4 (.slice (some ⟨g, 0, none⟩) n cap) n (rowsM l)) (hn : n = l.length) : NrM w g cap l ∧ lo ≤ g := by
  subst hn
  rcases h.2 with ⟨h0, _⟩ | ⟨g', cap', cur, e, hb, hg, h1, h2, h3, h4⟩
  · cases h0
  · injection e with e1 _ e3
    injection e1 with e1
    injection e1 with e1
    subst e1 e3
    refine ⟨⟨⟨cur.toList.drop (l.length * 4), ?_, ?_⟩, h1, h2⟩, hb⟩
    · rw [← h4, List.take_append_drop]; exact hg
    · have e : cur.toList.length = cap * 4 := by rw [Array.length_toList, h3]
      rw [List.length_drop, e]; omega

theorem Try.infoM : (Try.prog.info? TM).map (fun i => (i.zero, i.size, i.bytes)) = some (some (.agg #[.string ⟨#[]⟩, .int .i64 0, .int .i64 0, .int .i64 0]), 4, 40) := by kernel_rfl
theorem szNM (w : World) : (sizeOf TM).run Try.prog w = .ok 4 w := by
  obtain ⟨i, hi, _, hs, _⟩ := info_parts Try.infoM
  simp [sizeOf, typeInfo, hi, hs]
/-- copy, at a row: some cells read before, laid over. -/
theorem run_copy_nodesM (w : World) (ty : TypeId) (g o dLen dCap : Nat) (a : Addr) (sLen sCap : Nat) (cur : List Value) (m : Nat) (cs : List Value) (hg : w.heap[g]? = some (.cells cur.toArray TM (0, 0))) (hm : m = Nat.min sLen dLen) (hn : cs.length = m * 4)
    (hsrc : ∀ j v, cs[j]? = some v → w.cell? (a.add j) = some v) (hfit : o + cs.length ≤ cur.length) (h1 : ∀ v ∈ cs, v.oneCell' = true) :
    (Builtin.copy_ #[TLM, TLM] ty #[.slice (some ⟨g, o, none⟩) dLen dCap, .slice (some a) sLen sCap]).run Try.prog w = .ok (goInt m) (w.setRow g (cur.take o ++ cs ++ cur.drop (o + cs.length)).toArray) := by
  have hl := run_loadCells_list (P := Try.prog) w a cs hsrc
  have hst := run_storeCells_at Try.prog g o TM cs 0 cur.toArray w hg (by simpa using hfit) h1
  rw [hn] at hl
  simp [Builtin.copy_, run_underlying Try.underlying22, Builtin.lenOf, Builtin.firstCells, ← hm, hl, hst]

/-- clear, at a row. -/
theorem run_clear_nodesM (w : World) (ty : TypeId) (g o n c : Nat) (cur : List Value) (hg : w.heap[g]? = some (.cells cur.toArray TM (0, 0))) (hfit : o + n * 4 ≤ cur.length) (h0 : 0 < n) :
    ∃ zs : List Value, zs.length = n * 4 ∧ (Builtin.clear_ #[TLM] ty #[.slice (some ⟨g, o, none⟩) n c]).run Try.prog w = .ok (.tuple #[]) (w.setRow g (cur.take o ++ zs ++ cur.drop (o + n * 4)).toArray) := by
  refine ⟨(Builtin.zeroCells #[.string ⟨#[]⟩, .int .i64 0, .int .i64 0, .int .i64 0] n).toList, by simp [size_zeroCells], ?_⟩
  have hst := run_storeCells_at Try.prog g o TM (Builtin.zeroCells #[.string ⟨#[]⟩, .int .i64 0, .int .i64 0, .int .i64 0] n).toList 0 cur.toArray w hg (by simpa [size_zeroCells] using hfit) (by
    intro v hv
    simp only [Builtin.zeroCells, Array.toList_map, List.mem_map, Array.toList_range] at hv
    obtain ⟨i, _, rfl⟩ := hv
    have : i % 4 < 4 := Nat.mod_lt _ (by omega)
    generalize i % 4 = k at this
    match k, this with
    | 0, _ => rfl
    | 1, _ => rfl
    | 2, _ => rfl
    | 3, _ => rfl)
  obtain ⟨m, rfl⟩ : ∃ m, n = m + 1 := ⟨n - 1, by omega⟩
  simp [size_zeroCells] at hst
  simp [Builtin.clear_, run_underlying Try.underlying22, Value.cells, hst]

/-- Some slice of nodes behind a row of the call's own. -/
theorem app_nodesM (w : World) (lo : Nat) (v : Value) (l m : List Mt) (ty : TypeId) (g o n c : Nat) (hv : w.ownsRow lo TM 4 v l.length (rowsM l)) (hn : n = m.length) (hx : ∀ i (h : i < m.length), NdAtM w g (o + i * 4) m[i]) (h6 : l.length + m.length ≤ 100000) (hlo : lo ≤ w.heap.size) (h0 : 0 < l.length + m.length) :
    ∃ G cap w', (Builtin.append_ #[TLM, TLM] ty #[v, .slice (some ⟨g, o, none⟩) n c]).run Try.prog w = .ok (.slice (some ⟨G, 0, none⟩) (l.length + m.length) cap) w' ∧ NrM w' G cap (l ++ m) ∧ lo ≤ G ∧ w.grownBy w' v.ownBlock ∧ (v.ownBlock = some G ∨ w.heap.size ≤ G) := by
  obtain ⟨i, hi, hz, hsz, hby⟩ := info_parts Try.infoM
  subst hn
  obtain ⟨v', w', hr, h4, h5, h7, h8⟩ := run_append_own_at (P := Try.prog) w lo TLM ty TM i _ 4 40 Try.underlying22 hi hz hsz hby rfl (by decide) v l.length (rowsM l) hv ⟨g, o, none⟩ m.length c (rowsM m) (rowsM_len m)
    (fun j u hu => by
      have hj : j < m.length * 4 := by rw [← rowsM_len]; exact (List.getElem?_eq_some_iff.1 hu).1
      have hd : j / 4 < m.length := by omega
      have e : j / 4 * 4 + j % 4 = j := by omega
      rw [← e, rowsM_get m (j / 4) (j % 4) hd (by omega)] at hu
      have := (hx (j / 4) hd).get (j % 4) u hu
      rw [Addr.add_lit] at this ⊢
      rwa [show o + j / 4 * 4 + j % 4 = o + j from by omega] at this)
    (rowsM_one m) (by unfold maxLen; omega) (by omega) hlo
  have hne : v' ≠ .slice none 0 0 := fun e => by
    obtain ⟨e1, e2⟩ := h7.1 e
    subst e1
    rcases hv.2 with ⟨_, h⟩ | ⟨_, _, _, h, _⟩
    · omega
    · cases h
  rcases h4.2 with ⟨h9, _⟩ | ⟨G, cap, cur, rfl, hb, hg, r1, r2, r3, r4⟩
  · exact absurd h9 hne
  · rw [← rowsM_app] at h4
    obtain ⟨h10, h11⟩ := NrM.of_owns h4 (by rw [List.length_append])
    refine ⟨G, cap, w', hr, h10, h11, h5, ?_⟩
    rcases h8 with h8 | h8
    · exact .inl h8.symm
    · right; simp [Value.ownBlock] at h8; omega
theorem nil_sliceM (w : World) (a : Addr) (n c : Nat) : (binOp .eql TLM (.slice (some a) n c) (.slice none 0 0)).run Try.prog w = .ok (.bool false) w :=
  Lib.run_eql_slice_nil w TLM TM (some a) n c 0 0 Try.underlying22


/-- Nodes of the call's own, from block lo on; they may be none at all. -/
def OwM (lo : Nat) (w : World) (v : Value) (l : List Mt) : Prop := w.ownsRow lo TM 4 v l.length (rowsM l)
theorem OwM.ways {lo : Nat} {w : World} {v : Value} {l : List Mt} (h : OwM lo w v l) : (v = .slice none 0 0 ∧ l = []) ∨ ∃ G cap, v = .slice (some ⟨G, 0, none⟩) l.length cap ∧ NrM w G cap l ∧ lo ≤ G := by
  have h' := h
  unfold OwM at h'
  rcases h'.2 with ⟨h0, h1⟩ | ⟨g, cap, cur, e, hb, hg, h1, h2, h3, h4⟩
  · refine .inl ⟨h0, ?_⟩
    cases l with
    | nil => rfl
    | cons x l => simp at h1
  · refine .inr ⟨g, cap, e, ?_⟩
    unfold OwM at h
    rw [e] at h
    exact NrM.of_owns h rfl
theorem OwM.ns {lo : Nat} {w : World} {v : Value} {l : List Mt} (h : OwM lo w v l) : NsM w v l := by
  rcases h.ways with ⟨rfl, rfl⟩ | ⟨G, cap, rfl, h1, _⟩
  · exact NsM.nil w
  · exact h1.ns
theorem OwM.row {lo : Nat} {w : World} {G cap : Nat} {l : List Mt} (h : NrM w G cap l) (hlo : lo ≤ G) : OwM lo w (.slice (some ⟨G, 0, none⟩) l.length cap) l := h.owns hlo
theorem OwM.nil (lo : Nat) (w : World) : OwM lo w (.slice none 0 0) [] := ⟨rfl, .inl ⟨rfl, rfl⟩⟩
theorem OwM.keep {lo : Nat} {w w' : World} {v : Value} {l : List Mt} (h : OwM lo w v l) {S : Nat → Prop} (f : Fp S w w') (hS : ∀ k, v.ownBlock = some k → ¬ S k) : OwM lo w' v l := by
  rcases h.ways with ⟨rfl, rfl⟩ | ⟨G, cap, rfl, h1, h2⟩
  · exact OwM.nil lo w'
  · exact OwM.row (h1.keep f (hS G rfl)) h2
theorem OwM.non {lo : Nat} {w w' : World} {v : Value} {l : List Mt} (h : OwM lo w v l) (f : Fp Non w w') : OwM lo w' v l := h.keep f (fun _ _ h => h)
/-- Some slice of nodes behind nodes of the call's own, all cases. -/
theorem app_ownM (w : World) (lo : Nat) (v : Value) (l m : List Mt) (ty : TypeId) (a : Addr) (n c : Nat) (hv : OwM lo w v l) (hn : n = m.length) (hx : ∀ i (h : i < m.length) j u, (mtC m[i])[j]? = some u → w.cell? (a.add (i * 4 + j)) = some u) (h6 : l.length + m.length ≤ 100000) (hlo : lo ≤ w.heap.size) :
    ∃ v' w', (Builtin.append_ #[TLM, TLM] ty #[v, .slice (some a) n c]).run Try.prog w = .ok v' w' ∧ OwM lo w' v' (l ++ m) ∧ w.grownBy w' v.ownBlock ∧ ∀ k, v'.ownBlock = some k → v.ownBlock = some k ∨ w.heap.size ≤ k := by
  obtain ⟨i, hi, hz, hsz, hby⟩ := info_parts Try.infoM
  subst hn
  obtain ⟨v', w', hr, h4, h5, _, h8⟩ := run_append_own_at (P := Try.prog) w lo TLM ty TM i _ 4 40 Try.underlying22 hi hz hsz hby rfl (by decide) v l.length (rowsM l) hv a m.length c (rowsM m) (rowsM_len m)
    (fun j u hu => by
      have hj : j < m.length * 4 := by rw [← rowsM_len]; exact (List.getElem?_eq_some_iff.1 hu).1
      have hd : j / 4 < m.length := by omega
      have e : j / 4 * 4 + j % 4 = j := by omega
      rw [← e, rowsM_get m (j / 4) (j % 4) hd (by omega)] at hu
      have := hx (j / 4) hd (j % 4) u hu
      rwa [e] at this)
    (rowsM_one m) (by unfold maxLen; omega) (by omega) hlo
  refine ⟨v', w', hr, ?_, h5, fun k hk => ?_⟩
  · unfold OwM
    rw [rowsM_app, List.length_append]; exact h4
  · rcases h8 with e | e
    · exact .inl (by rw [← e]; exact hk)
    · rw [hk] at e; injection e with e; exact .inr (by omega)

/-- Nodes of the call's own, behind one call. -/
structure OwRM (w : World) (l : List Mt) (v' : Value) (w' : World) : Prop where
  own : OwM w.heap.size w' v' l
  fp : Fp Non w w'

set_option maxHeartbeats 2000000 in
theorem Clone_ownM (v : Value) (l : List Mt) (w : World) (hv : NsM w v l) (h5 : l.length ≤ 100000) :
    Calls Try.prog 20 #[v] w fun e w' => ∃ v', e = .returned v' ∧ OwRM w l v' w' := by
  obtain ⟨ao, cap, rfl, h1, h2, h3⟩ := hv.ex
  cases ao with
  | none =>
    obtain rfl : l = [] := by
      rcases h3 with h | ⟨_, _, h, _⟩
      · exact h
      · cases h
    have hnil : ∀ w : World, (binOp .eql TLM (.slice none 0 cap) (.slice none 0 0)).run Try.prog w = .ok (.bool true) w := fun w => Lib.run_eql_slice_nil w TLM TM none 0 cap 0 0 Try.underlying22
    clear h1 h2 h3 hv h5
    simp only [List.length_nil]
    go_enter Try.func20, Try.ntmps20
    go_wp2
    go_ret
    exact ⟨_, rfl, OwM.nil _ _, Fp.refl _ _⟩
  | some a =>
    have hown : OwM w.heap.size (w.alloc (.cells #[] TM)) (.slice (some ⟨w.heap.size, 0, none⟩) 0 0) [] := World.ownsRow_lit w #[] 0 (Nat.le_refl _) (by unfold maxLen; omega) rfl
    have hx : ∀ i (h : i < l.length) j u, (mtC l[i])[j]? = some u → (w.alloc (.cells #[] TM)).cell? (a.add (i * 4 + j)) = some u := fun i hi j u hu => by
      rcases h3 with h | ⟨g, o, e, _, hc⟩
      · subst h; simp at hi
      · injection e with e; subst e
        have := ((hc i hi).keep ((Fp.refl Non w).alloc (.cells #[] TM)) (fun h => h)).get j u hu
        rw [Addr.add_lit] at this ⊢
        rwa [Nat.add_assoc] at this
    have hap : ∀ ty, ∃ v' w', (Builtin.append_ #[TLM, TLM] ty #[.slice (some ⟨w.heap.size, 0, none⟩) 0 0, .slice (some a) l.length cap]).run Try.prog (w.alloc (.cells #[] TM)) = .ok v' w' ∧ OwRM w l v' w' := fun ty => by
      obtain ⟨v', w', hr, ho, hg, _⟩ := app_ownM (w.alloc (.cells #[] TM)) w.heap.size _ [] l ty a l.length cap hown rfl hx (by simp; omega) (by simp)
      exact ⟨v', w', hr, ho, ((Fp.refl Non w).alloc _).grown hg (fun k hk => .inr (by simp [Value.ownBlock] at hk; omega))⟩
    have hnil := nil_sliceM
    have HA2 := Lib.hid (hap TLM)
    clear hap hown hx hv h1 h2 h3 h5
    generalize l.length = n at *
    go_enter Try.func20, Try.ntmps20
    go_wp2_with (at_builtin; go_must (refine wpList_app rfl _ _ _ _ rfl _ _ rfl rfl (OwRM w l) HA2.out ?_))
    intro u w2 hR
    have HR := Lib.hid hR
    clear hR
    go_wp2
    go_ret
    exact ⟨_, rfl, HR.out⟩

/-- What a change of nodes of the call's own leaves. -/
structure ChRM (lo : Nat) (w : World) (v : Value) (l : List Mt) (v' : Value) (w' : World) : Prop where
  own : OwM lo w' v' l
  fp : Fp (fun k => v.ownBlock = some k) w w'
  new : ∀ k, v'.ownBlock = some k → v.ownBlock = some k ∨ w.heap.size ≤ k


end Go.Proofs.Ytdfnfkknbjageaa

