/- Texts of this proof, merged. -/
import Derived.Test.YtlmfinpmlilcgaaZB
import Derived.WalkSpells
import Derived.Deep.RegionWith
import Derived.Deep.RegionLaw
import Derived.Laws.CopyRow
import Derived.Laws.IdiomCopy
import Derived.Laws.OwnMore
import Derived.Maps.AppendAt
import Derived.Deep.Upon
import Derived.OwnWalk
import Derived.Deep.QuietTactic
import Derived.Maps.OwnSet
import Derived.StringKeys
import Derived.Deep.RegionHeld
import Derived.Shelf.Abstract
import Derived.Test.YtlmfinpmlilcgaaShelf
import Derived.Lib.Bytealg
import Derived.Laws.StructEq
import Derived.ProofKit
import Derived.OpenShut
import Derived.Deep.Strs
import Derived.Deep.Grids
import Derived.ChangeSlices
import Derived.Lib.SliceRun
import Derived.Lib.Overlaps
import Derived.Lib.AppendZerosOnto
import Derived.Laws.Externs
set_option linter.unusedVariables false
set_option linter.unusedSimpArgs false
/- What a call may change; nodes in memory: slices of them, rows of the call's own; append, copy, clear at the operation. -/
namespace Go.Proofs.Ytlmfinpmlilcgaa
set_option maxRecDepth 20000
open Go.RowKit Pm

/-- As it was, but for the blocks of S, and new ones. -/
structure Fp (S : Nat → Prop) (w w' : World) : Prop where
  os : w'.os = w.os
  tape : w'.tape = w.tape
  output : w'.output = w.output
  size : w.heap.size ≤ w'.heap.size
  block : ∀ k, k < w.heap.size → ¬ S k → w'.heap[k]? = w.heap[k]?

def Non : Nat → Prop := fun _ => False

theorem Fp.refl (S : Nat → Prop) (w : World) : Fp S w w := ⟨rfl, rfl, rfl, Nat.le_refl _, fun _ _ _ => rfl⟩
theorem Fp.trans {S T : Nat → Prop} {a b c : World} (h : Fp S a b) (g : Fp T b c) (hT : ∀ k, T k → S k ∨ a.heap.size ≤ k) : Fp S a c :=
  ⟨g.os.trans h.os, g.tape.trans h.tape, g.output.trans h.output, Nat.le_trans h.size g.size,
    fun k hk hS => (g.block k (Nat.lt_of_lt_of_le hk h.size) (fun ht => (hT k ht).elim hS (fun h1 => absurd hk (by omega)))).trans (h.block k hk hS)⟩
theorem Fp.then {S : Nat → Prop} {a b c : World} (h : Fp S a b) (g : Fp Non b c) : Fp S a c := h.trans g (fun _ h => h.elim)
theorem Fp.same {S : Nat → Prop} {a b c : World} (h : Fp S a b) (g : Fp S b c) : Fp S a c := h.trans g (fun _ h => .inl h)
theorem Fp.mono {S T : Nat → Prop} {a b : World} (h : Fp S a b) (hS : ∀ k, S k → T k) : Fp T a b := ⟨h.os, h.tape, h.output, h.size, fun k hk ht => h.block k hk (fun hs => ht (hS k hs))⟩
theorem Fp.any {S : Nat → Prop} {a b : World} (h : Fp Non a b) : Fp S a b := h.mono (fun _ h => h.elim)
theorem Fp.drewN {S : Nat → Prop} {a b : World} (h : Fp S a b) (n : Nat) : Fp S a (b.drewN n) := ⟨h.os, h.tape, h.output, h.size, h.block⟩
theorem Fp.drew {S : Nat → Prop} {a b : World} (h : Fp S a b) : Fp S a b.drew := ⟨h.os, h.tape, h.output, h.size, h.block⟩
theorem Fp.below {S : Nat → Prop} {a b : World} (h : Fp S a b) {lo : Nat} (hS : ∀ k, S k → lo ≤ k) (hl : lo ≤ a.heap.size) : Below lo a b :=
  ⟨h.os, h.tape, h.output, h.size, fun k hk => h.block k (by omega) (fun hs => by have := hS k hs; omega)⟩
theorem Fp.of_below {a b : World} (h : Below a.heap.size a b) : Fp Non a b := ⟨h.os, h.tape, h.output, h.size, fun k hk _ => h.block k hk⟩
theorem Fp.grown {S : Nat → Prop} {a b c : World} {row : Option Nat} (h : Fp S a b) (g : b.grownBy c row) (hr : ∀ k, row = some k → S k ∨ a.heap.size ≤ k) : Fp S a c :=
  ⟨g.os.trans h.os, g.tape.trans h.tape, g.output.trans h.output, Nat.le_trans h.size g.size,
    fun k hk hS => (g.block k (Nat.lt_of_lt_of_le hk h.size) (fun ht => (hr k ht.symm).elim hS (fun h1 => absurd hk (by omega)))).trans (h.block k hk hS)⟩
theorem Fp.alloc {S : Nat → Prop} {a b : World} (h : Fp S a b) (o : Obj) : Fp S a (b.alloc o) := h.grown (World.grownBy_alloc b o none) (fun _ h => by cases h)
theorem Fp.setCell {S : Nat → Prop} {a b : World} (h : Fp S a b) {p : Addr} (hp : S p.block ∨ a.heap.size ≤ p.block) (v : Value) : Fp S a (b.setCell p v) := by
  refine ⟨h.os, h.tape, h.output, by simpa [World.setCell] using h.size, fun k hk hS => ?_⟩
  have hne : k ≠ p.block := by rintro rfl; exact hp.elim hS (fun h1 => absurd hk (by omega))
  have : (b.setCell p v).heap[k]? = b.heap[k]? := by
    unfold World.setCell
    simp [Array.getElem?_modify, Ne.symm hne]
  exact this.trans (h.block k hk hS)
theorem Fp.heap {S : Nat → Prop} {a b : World} (h : Fp S a b) {k : Nat} {o : Obj} (hk : a.heap[k]? = some o) (hS : ¬ S k) : b.heap[k]? = some o := by
  rw [h.block k (Array.getElem?_eq_some_iff.1 hk).1 hS]; exact hk
theorem Fp.cell {S : Nat → Prop} {a b : World} (h : Fp S a b) {p : Addr} {v : Value} (hc : a.cell? p = some v) (hS : ¬ S p.block) : b.cell? p = some v :=
  (World.cell?_of_block (h.block p.block (World.block_lt_of_cell? a p hc) hS)).trans hc
theorem Fp.owns {S : Nat → Prop} {a b : World} (h : Fp S a b) {lo : Nat} {e : TypeId} {size : Nat} {v : Value} {n : Nat} {xs : List Value} (ho : a.ownsRow lo e size v n xs) (hS : ∀ k, v.ownBlock = some k → ¬ S k) : b.ownsRow lo e size v n xs := by
  refine ⟨ho.1, ?_⟩
  rcases ho.2 with hn | ⟨g, cap, cur, rfl, hb, hgg, rest⟩
  · exact .inl hn
  · exact .inr ⟨g, cap, cur, rfl, hb, h.heap hgg (hS g rfl), rest⟩


theorem Fp.gr {w w' : World} (h : Fp Non w w') : Gr w w' := h.below (fun _ h => h.elim) (Nat.le_refl _)
theorem Gr.fp {w w' : World} (h : Gr w w') : Fp Non w w' := Fp.of_below h
theorem Fp.over {S : Nat → Prop} {a b c : World} (h : Fp Non a b) (g : Fp S b c) (hS : ∀ k, S k → a.heap.size ≤ k) : Fp Non a c := h.trans g (fun k hk => .inr (hS k hk))

abbrev TN : TypeId := 81
abbrev TL : TypeId := 23

/-- A node's cells. -/
def ndC (n : Nd) : List Value := [strV n.path, strV n.data, .int .i64 n.ver, .int .i64 n.turn, .int .i64 n.own]
def ndV (n : Nd) : Value := .agg #[strV n.path, strV n.data, .int .i64 n.ver, .int .i64 n.turn, .int .i64 n.own]
def rows (l : List Nd) : List Value := l.flatMap ndC
theorem ndC_len (n : Nd) : (ndC n).length = 5 := rfl
theorem ndV_cells (n : Nd) : (ndV n).cells = (ndC n).toArray := rfl
theorem rows_nil : rows [] = [] := rfl
theorem rows_cons (n : Nd) (l : List Nd) : rows (n :: l) = ndC n ++ rows l := by simp [rows]
theorem rows_app (a b : List Nd) : rows (a ++ b) = rows a ++ rows b := by simp [rows]
theorem rows_len (l : List Nd) : (rows l).length = l.length * 5 := by
  induction l with
  | nil => rfl
  | cons n l ih => rw [rows_cons, List.length_append, ndC_len, ih, List.length_cons]; omega
theorem rows_get (l : List Nd) (i j : Nat) (hi : i < l.length) (hj : j < 5) : (rows l)[i * 5 + j]? = (ndC l[i])[j]? := by
  induction l generalizing i with
  | nil => simp at hi
  | cons n l ih =>
    rw [rows_cons]
    cases i with
    | zero => rw [List.getElem?_append_left (by rw [ndC_len]; omega)]; simp
    | succ i =>
      rw [List.getElem?_append_right (by rw [ndC_len]; omega), ndC_len, show (i + 1) * 5 + j - 5 = i * 5 + j from by omega, ih i (by simpa using hi)]
      simp
theorem rows_one (l : List Nd) : ∀ u ∈ rows l, u.oneCell' = true := by
  intro u hu
  unfold rows at hu
  rw [List.mem_flatMap] at hu
  obtain ⟨n, _, hu⟩ := hu
  simp only [ndC, List.mem_cons, List.not_mem_nil, or_false] at hu
  rcases hu with rfl | rfl | rfl | rfl | rfl <;> rfl
theorem rows_take (l : List Nd) (k : Nat) : (rows l).take (k * 5) = rows (l.take k) := by
  induction l generalizing k with
  | nil => simp [rows]
  | cons n l ih =>
    cases k with
    | zero => simp [rows]
    | succ k => rw [List.take_succ_cons, rows_cons, rows_cons, ← ih, List.take_append, ndC_len, List.take_of_length_le (by rw [ndC_len]; omega), show (k + 1) * 5 - 5 = k * 5 from by omega]
theorem rows_drop (l : List Nd) (k : Nat) : (rows l).drop (k * 5) = rows (l.drop k) := by
  induction l generalizing k with
  | nil => simp [rows]
  | cons n l ih =>
    cases k with
    | zero => simp [rows]
    | succ k => rw [List.drop_succ_cons, rows_cons, ← ih, List.drop_append, ndC_len, List.drop_of_length_le (by rw [ndC_len]; omega), show (k + 1) * 5 - 5 = k * 5 from by omega]; rfl

/-- A node at a place. -/
structure NdAt (w : World) (g o : Nat) (n : Nd) : Prop where
  c0 : w.cell? ⟨g, o, none⟩ = some (strV n.path)
  c1 : w.cell? ⟨g, o + 1, none⟩ = some (strV n.data)
  c2 : w.cell? ⟨g, o + 2, none⟩ = some (.int .i64 n.ver)
  c3 : w.cell? ⟨g, o + 3, none⟩ = some (.int .i64 n.turn)
  c4 : w.cell? ⟨g, o + 4, none⟩ = some (.int .i64 n.own)
theorem NdAt.keep {w w' : World} {g o : Nat} {n : Nd} (h : NdAt w g o n) {S : Nat → Prop} (f : Fp S w w') (hS : ¬ S g) : NdAt w' g o n :=
  ⟨f.cell h.c0 hS, f.cell h.c1 hS, f.cell h.c2 hS, f.cell h.c3 hS, f.cell h.c4 hS⟩
theorem NdAt.get {w : World} {g o : Nat} {n : Nd} (h : NdAt w g o n) : ∀ j v, (ndC n)[j]? = some v → w.cell? ((⟨g, o, none⟩ : Addr).add j) = some v := by
  intro j v hv
  rw [Addr.add_lit]
  match j, hv with
  | 0, hv => rw [← Option.some.inj hv]; exact h.c0
  | 1, hv => rw [← Option.some.inj hv]; exact h.c1
  | 2, hv => rw [← Option.some.inj hv]; exact h.c2
  | 3, hv => rw [← Option.some.inj hv]; exact h.c3
  | 4, hv => rw [← Option.some.inj hv]; exact h.c4
  | j + 5, hv => simp [ndC] at hv

/-- A slice that reads as nodes. -/
structure Ns (w : World) (v : Value) (l : List Nd) : Prop where
  ex : ∃ ao cap, v = .slice ao l.length cap ∧ l.length ≤ cap ∧ cap ≤ maxLen ∧ (l = [] ∨ ∃ g o, ao = some ⟨g, o, none⟩ ∧ g < w.heap.size ∧ ∀ i (h : i < l.length), NdAt w g (o + i * 5) l[i])
theorem Ns.keep {w w' : World} {v : Value} {l : List Nd} (h : Ns w v l) {S : Nat → Prop} (f : Fp S w w') (hS : ∀ k, v.ownBlock = some k → ¬ S k) : Ns w' v l := by
  obtain ⟨ao, cap, rfl, h1, h2, h3⟩ := h.ex
  refine ⟨ao, cap, rfl, h1, h2, ?_⟩
  rcases h3 with h3 | ⟨g, o, rfl, hg, hc⟩
  · exact .inl h3
  · exact .inr ⟨g, o, rfl, Nat.lt_of_lt_of_le hg f.size, fun i hi => (hc i hi).keep f (hS g rfl)⟩
theorem Ns.non {w w' : World} {v : Value} {l : List Nd} (h : Ns w v l) (f : Fp Non w w') : Ns w' v l := h.keep f (fun _ _ h => h)
theorem Ns.nil (w : World) : Ns w (.slice none 0 0) [] := ⟨none, 0, rfl, Nat.le_refl _, Nat.zero_le _, .inl rfl⟩
theorem Ns.shape {w : World} {v : Value} {l : List Nd} (h : Ns w v l) : ∃ ao cap, v = .slice ao l.length cap := by
  obtain ⟨ao, cap, rfl, _⟩ := h.ex; exact ⟨ao, cap, rfl⟩
theorem Ns.at {w : World} {v : Value} {l : List Nd} (h : Ns w v l) (h0 : 0 < l.length) : ∃ g o cap, v = .slice (some ⟨g, o, none⟩) l.length cap ∧ l.length ≤ cap ∧ cap ≤ maxLen ∧ g < w.heap.size ∧ ∀ i (h : i < l.length), NdAt w g (o + i * 5) l[i] := by
  obtain ⟨ao, cap, rfl, h1, h2, h3⟩ := h.ex
  rcases h3 with h3 | ⟨g, o, rfl, hg, hc⟩
  · subst h3; simp at h0
  · exact ⟨g, o, cap, rfl, h1, h2, hg, hc⟩
theorem Ns.take {w : World} {g o n cap : Nat} {l : List Nd} (h : Ns w (.slice (some ⟨g, o, none⟩) n cap) l) (k c : Nat) (hk : k ≤ l.length) (hkc : k ≤ c) (hc : c ≤ maxLen) (h0 : g < w.heap.size) : Ns w (.slice (some ⟨g, o, none⟩) k c) (l.take k) := by
  obtain ⟨ao, cap', e, h1, h2, h3⟩ := h.ex
  injection e with e1 e2 e3
  have hl : (l.take k).length = k := by rw [List.length_take]; omega
  refine ⟨some ⟨g, o, none⟩, c, by rw [hl], by rw [hl]; exact hkc, hc, ?_⟩
  rcases h3 with h3 | ⟨g', o', e4, hg, hcell⟩
  · subst h3; exact .inl (by simp)
  · rw [e4] at e1; injection e1 with e1; injection e1 with e5 e6; subst e5 e6
    refine .inr ⟨g, o, rfl, h0, fun i hi => ?_⟩
    rw [List.getElem_take]
    exact hcell i (by rw [hl] at hi; omega)

/-- A row of the call's own: block g has room for cap nodes, and begins with l. -/
structure Nr (w : World) (g cap : Nat) (l : List Nd) : Prop where
  ex : ∃ rest, w.heap[g]? = some (.cells (rows l ++ rest).toArray TN (0, 0)) ∧ l.length * 5 + rest.length = cap * 5
  room : l.length ≤ cap
  most : cap ≤ maxLen
theorem Nr.lt {w : World} {g cap : Nat} {l : List Nd} (h : Nr w g cap l) : g < w.heap.size := by
  obtain ⟨r, h, _⟩ := h.ex; exact (Array.getElem?_eq_some_iff.1 h).1
theorem Nr.keep {w w' : World} {g cap : Nat} {l : List Nd} (h : Nr w g cap l) {S : Nat → Prop} (f : Fp S w w') (hS : ¬ S g) : Nr w' g cap l := by
  obtain ⟨r, h1, h2⟩ := h.ex; exact ⟨⟨r, f.heap h1 hS, h2⟩, h.room, h.most⟩
theorem Nr.cell {w : World} {g cap : Nat} {l : List Nd} (h : Nr w g cap l) (i j : Nat) (hi : i < l.length) (hj : j < 5) : w.cell? ⟨g, i * 5 + j, none⟩ = (ndC l[i])[j]? := by
  obtain ⟨r, h1, _⟩ := h.ex
  rw [cell_of_row w g _ _ TN (0, 0) h1]
  simp only [List.getElem?_toArray]
  rw [List.getElem?_append_left (by rw [rows_len]; omega), rows_get l i j hi hj]
theorem Nr.nd {w : World} {g cap : Nat} {l : List Nd} (h : Nr w g cap l) (i : Nat) (hi : i < l.length) : NdAt w g (0 + i * 5) l[i] := by
  rw [Nat.zero_add]
  exact ⟨h.cell i 0 hi (by omega), h.cell i 1 hi (by omega), h.cell i 2 hi (by omega), h.cell i 3 hi (by omega), h.cell i 4 hi (by omega)⟩
theorem Nr.ns {w : World} {g cap : Nat} {l : List Nd} (h : Nr w g cap l) : Ns w (.slice (some ⟨g, 0, none⟩) l.length cap) l :=
  ⟨_, cap, rfl, h.room, h.most, .inr ⟨g, 0, rfl, h.lt, h.nd⟩⟩
theorem Nr.frozen {w : World} {g cap : Nat} {l : List Nd} (h : Nr w g cap l) (o : Nat) : w.frozen? ⟨g, o, none⟩ = false := by
  obtain ⟨r, h1, _⟩ := h.ex; simp [World.frozen?, h1]
theorem Nr.owns {w : World} {g cap : Nat} {l : List Nd} (h : Nr w g cap l) {lo : Nat} (hlo : lo ≤ g) : w.ownsRow lo TN 5 (.slice (some ⟨g, 0, none⟩) l.length cap) l.length (rows l) := by
  obtain ⟨r, h1, h2⟩ := h.ex
  refine ⟨rows_len l, .inr ⟨g, cap, _, rfl, hlo, h1, h.room, h.most, by simp [rows_len]; omega, ?_⟩⟩
  simp only
  rw [← rows_len l]; exact List.take_left
theorem Nr.of_owns {w : World} {lo g cap n : Nat} {l : List Nd} (h : w.ownsRow lo TN 5 (.slice (some ⟨g, 0, none⟩) n cap) n (rows l)) (hn : n = l.length) : Nr w g cap l ∧ lo ≤ g := by
  subst hn
  rcases h.2 with ⟨h0, _⟩ | ⟨g', cap', cur, e, hb, hg, h1, h2, h3, h4⟩
  · cases h0
  · injection e with e1 _ e3
    injection e1 with e1
    injection e1 with e1
    subst e1 e3
    refine ⟨⟨⟨cur.toList.drop (l.length * 5), ?_, ?_⟩, h1, h2⟩, hb⟩
    · rw [← h4, List.take_append_drop]; exact hg
    · have e : cur.toList.length = cap * 5 := by rw [Array.length_toList, h3]
      rw [List.length_drop, e]; omega

theorem fp_setRow (w : World) (g : Nat) (cs : Array Value) : Fp (fun k => k = g) w (w.setRow g cs) :=
  ⟨rfl, rfl, rfl, by simp [World.setRow], fun k _ hne => setRow_other w g k cs hne⟩

theorem Try.infoN : (Try.prog.info? TN).map (fun i => (i.zero, i.size, i.bytes)) = some (some (.agg #[.string ⟨#[]⟩, .string ⟨#[]⟩, .int .i64 0, .int .i64 0, .int .i64 0]), 5, 56) := by kernel_rfl
theorem szN (w : World) : (sizeOf TN).run Try.prog w = .ok 5 w := by
  obtain ⟨i, hi, _, hs, _⟩ := info_parts Try.infoN
  simp [sizeOf, typeInfo, hi, hs]
theorem zvN (w : World) : (zeroValue TN).run Try.prog w = .ok (.agg #[.string ⟨#[]⟩, .string ⟨#[]⟩, .int .i64 0, .int .i64 0, .int .i64 0]) w := by
  obtain ⟨i, hi, hz, _, _⟩ := info_parts Try.infoN
  simp [zeroValue, typeInfo, hi, hz]

/-- copy, at a row: some cells read before, laid over. -/
theorem run_copy_nodes (w : World) (ty : TypeId) (g o dLen dCap : Nat) (a : Addr) (sLen sCap : Nat) (cur : List Value) (m : Nat) (cs : List Value) (hg : w.heap[g]? = some (.cells cur.toArray TN (0, 0))) (hm : m = Nat.min sLen dLen) (hn : cs.length = m * 5)
    (hsrc : ∀ j v, cs[j]? = some v → w.cell? (a.add j) = some v) (hfit : o + cs.length ≤ cur.length) (h1 : ∀ v ∈ cs, v.oneCell' = true) :
    (Builtin.copy_ #[TL, TL] ty #[.slice (some ⟨g, o, none⟩) dLen dCap, .slice (some a) sLen sCap]).run Try.prog w = .ok (goInt m) (w.setRow g (cur.take o ++ cs ++ cur.drop (o + cs.length)).toArray) := by
  have hl := run_loadCells_list (P := Try.prog) w a cs hsrc
  have hst := run_storeCells_at Try.prog g o TN cs 0 cur.toArray w hg (by simpa using hfit) h1
  rw [hn] at hl
  simp [Builtin.copy_, run_underlying Try.underlying23, Builtin.lenOf, Builtin.firstCells, ← hm, hl, hst]

/-- clear, at a row. -/
theorem run_clear_nodes (w : World) (ty : TypeId) (g o n c : Nat) (cur : List Value) (hg : w.heap[g]? = some (.cells cur.toArray TN (0, 0))) (hfit : o + n * 5 ≤ cur.length) (h0 : 0 < n) :
    ∃ zs : List Value, zs.length = n * 5 ∧ (Builtin.clear_ #[TL] ty #[.slice (some ⟨g, o, none⟩) n c]).run Try.prog w = .ok (.tuple #[]) (w.setRow g (cur.take o ++ zs ++ cur.drop (o + n * 5)).toArray) := by
  refine ⟨(Builtin.zeroCells #[.string ⟨#[]⟩, .string ⟨#[]⟩, .int .i64 0, .int .i64 0, .int .i64 0] n).toList, by simp [size_zeroCells], ?_⟩
  have hst := run_storeCells_at Try.prog g o TN (Builtin.zeroCells #[.string ⟨#[]⟩, .string ⟨#[]⟩, .int .i64 0, .int .i64 0, .int .i64 0] n).toList 0 cur.toArray w hg (by simpa [size_zeroCells] using hfit) (by
    intro v hv
    simp only [Builtin.zeroCells, Array.toList_map, List.mem_map, Array.toList_range] at hv
    obtain ⟨i, _, rfl⟩ := hv
    have : i % 5 < 5 := Nat.mod_lt _ (by omega)
    generalize i % 5 = k at this
    match k, this with
    | 0, _ => rfl
    | 1, _ => rfl
    | 2, _ => rfl
    | 3, _ => rfl
    | 4, _ => rfl)
  obtain ⟨m, rfl⟩ : ∃ m, n = m + 1 := ⟨n - 1, by omega⟩
  simp [size_zeroCells] at hst
  simp [Builtin.clear_, run_underlying Try.underlying23, Value.cells, hst]

/-- Some slice of nodes behind a row of the call's own. -/
theorem app_nodes (w : World) (lo : Nat) (v : Value) (l m : List Nd) (ty : TypeId) (g o n c : Nat) (hv : w.ownsRow lo TN 5 v l.length (rows l)) (hn : n = m.length) (hx : ∀ i (h : i < m.length), NdAt w g (o + i * 5) m[i]) (h6 : l.length + m.length ≤ 100000) (hlo : lo ≤ w.heap.size) (h0 : 0 < l.length + m.length) :
    ∃ G cap w', (Builtin.append_ #[TL, TL] ty #[v, .slice (some ⟨g, o, none⟩) n c]).run Try.prog w = .ok (.slice (some ⟨G, 0, none⟩) (l.length + m.length) cap) w' ∧ Nr w' G cap (l ++ m) ∧ lo ≤ G ∧ w.grownBy w' v.ownBlock ∧ (v.ownBlock = some G ∨ w.heap.size ≤ G) := by
  obtain ⟨i, hi, hz, hsz, hby⟩ := info_parts Try.infoN
  subst hn
  obtain ⟨v', w', hr, h4, h5, h7, h8⟩ := run_append_own_at (P := Try.prog) w lo TL ty TN i _ 5 56 Try.underlying23 hi hz hsz hby rfl (by decide) v l.length (rows l) hv ⟨g, o, none⟩ m.length c (rows m) (rows_len m)
    (fun j u hu => by
      have hj : j < m.length * 5 := by rw [← rows_len]; exact (List.getElem?_eq_some_iff.1 hu).1
      have hd : j / 5 < m.length := by omega
      have e : j / 5 * 5 + j % 5 = j := by omega
      rw [← e, rows_get m (j / 5) (j % 5) hd (by omega)] at hu
      have := (hx (j / 5) hd).get (j % 5) u hu
      rw [Addr.add_lit] at this ⊢
      rwa [show o + j / 5 * 5 + j % 5 = o + j from by omega] at this)
    (rows_one m) (by unfold maxLen; omega) (by omega) hlo
  have hne : v' ≠ .slice none 0 0 := fun e => by
    obtain ⟨e1, e2⟩ := h7.1 e
    subst e1
    rcases hv.2 with ⟨_, h⟩ | ⟨_, _, _, h, _⟩
    · omega
    · cases h
  rcases h4.2 with ⟨h9, _⟩ | ⟨G, cap, cur, rfl, hb, hg, r1, r2, r3, r4⟩
  · exact absurd h9 hne
  · rw [← rows_app] at h4
    obtain ⟨h10, h11⟩ := Nr.of_owns h4 (by rw [List.length_append])
    refine ⟨G, cap, w', hr, h10, h11, h5, ?_⟩
    rcases h8 with h8 | h8
    · exact .inl h8.symm
    · right; simp [Value.ownBlock] at h8; omega
end Go.Proofs.Ytlmfinpmlilcgaa

/- Small functions of package nodes; the map of owners. -/
namespace Go.Proofs.Ytlmfinpmlilcgaa
set_option maxRecDepth 20000
open Go.RowKit Pm Go.Maps

def resV (e : Int) (p d : Bs) (v : Int) (ns : Value) : Value := .agg #[.int .i64 e, strV p, strV d, .int .i64 v, ns]
def badV (e : Int) : Value := .agg #[.int .i64 e, .string ⟨#[]⟩, .string ⟨#[]⟩, .int .i64 0, .slice none 0 0]

structure OmAt (w : World) (m : Nat) (l : List Nd) (D : DataW Unit) : Prop where
  own : w.ownsMap Try.prog 9 (plainElem Try.prog 2) m l.length D
  has : ∀ p : Bs, Maps.has D (.string p) = (find l p).isSome
  at' : ∀ p x, find l p = some x → ∀ zd, D.atKey (.string p) zd = .lit (.int .i64 x.own)
def Om (w : World) (m : Nat) (l : List Nd) : Prop := ∃ D, OmAt w m l D
theorem lawS : Keyed Try.prog 9 := string_keyed Try.underlying9
theorem Om.keep {w w' : World} {m : Nat} {l : List Nd} (h : Om w m l) {S : Nat → Prop} (f : Fp S w w') (hS : ¬ S m) : Om w' m l := by
  obtain ⟨D, ⟨es, clock, hb, F, hs, e⟩, h2, h3⟩ := h
  exact ⟨D, ⟨es, clock, f.heap hb hS, F, hs, e⟩, h2, h3⟩
theorem Om.made (w : World) : Om (w.alloc (.map #[] 0)) w.heap.size [] :=
  ⟨.map [], World.ownsMap_made w _ _ _, fun p => by simp [Maps.has, find], fun p x h => by cases h⟩
theorem keyS (p : Bs) (h : p.length ≤ maxLen) : keyOf Try.prog 9 (.string (B p)) = some (.string p) := by
  have := WideMaps.keyOf_string_mk (P := Try.prog) Try.underlying9 (s := B p) (by rw [B_size]; exact h)
  exact this
theorem zv64 (w : World) : (zeroValue 2).run Try.prog w = .ok (.int .i64 0) w := by kernel_rfl
/-- Behind a store. -/
structure OuR (m : Nat) (l : List Nd) (w w' : World) : Prop where
  om : Om w' m l
  fp : Fp (fun k => k = m) w w'
theorem find_snoc (l : List Nd) (x : Nd) (p : Bs) (h : find l x.path = none) : find (l ++ [x]) p = if p = x.path then some x else find l p := by
  unfold find at h ⊢
  rw [List.find?_append]
  split
  · rename_i e; subst e; rw [h]; simp
  · rename_i e
    cases hf : l.find? (fun n => n.path == p) with
    | some y => rfl
    | none => simp [Ne.symm e]
theorem wpList_lookup_run {P : Program} {w : World} {ops : Array Oper} {rest : List Oper} {o : Oper} {a : Act} {Q : Exit → Act → World → Prop} (hgd : o.guard = none) (t : TypeId) (mo x : Operand) (c : Bool) (ho : o.op = .lookup t mo x c) (mv xv r : Value) (hm : a.eval mo = mv) (hx : a.eval x = xv)
    (hr : (Instr.lookup t mv xv c).run P w = .ok r w) (h : wpList P ops Q rest (a.put o.dst r) w) : wpList P ops Q (o :: rest) a w := by
  refine wpList_plain hgd fun K hK => ?_
  unfold Oper.wp
  simp [execOp, ho, hm, hx, hr, Result.andThen]
  exact hK _ _ h
theorem wpList_upd_run {P : Program} {w : World} {ops : Array Oper} {rest : List Oper} {o : Oper} {a : Act} {Q : Exit → Act → World → Prop} (hgd : o.guard = none) (t : TypeId) (mo x v : Operand)
    (ho : o.op = .mapUpdate t mo x v) (mv xv vv : Value) (hm : a.eval mo = mv) (hx : a.eval x = xv) (hv : a.eval v = vv) (R : World → Prop)
    (hr : ∃ w', (Instr.mapUpdate t mv xv vv).run P w = .ok () w' ∧ R w') (h : ∀ w', R w' → wpList P ops Q rest (a.put o.dst undef) w') : wpList P ops Q (o :: rest) a w := by
  refine wpList_plain hgd fun K hK => ?_
  obtain ⟨w', hr, h2⟩ := hr
  unfold Oper.wp
  simp [execOp, ho, hm, hx, hv, hr, Result.andThen]
  exact hK _ _ (h w' h2)

end Go.Proofs.Ytlmfinpmlilcgaa

/- Right: is it a tree? -/
namespace Go.Proofs.Ytlmfinpmlilcgaa
set_option maxRecDepth 20000
open Go.RowKit Pm

/-- Paths are no longer than a machine holds. -/
def Sp (l : List Nd) : Prop := ∀ n ∈ l, n.path.length ≤ 1000000

/-- Ahead of round k. -/
structure RgM (l : List Nd) (m : Nat) (w : World) (k : Nat) (wr : World) : Prop where
  fp : Fp Non w wr
  om : Om wr m (l.take k)
  chk : ∀ j (h : j < l.length), j < k → Chk l j h
  lo : w.heap.size ≤ m

theorem tree_not {l : List Nd} {k : Nat} (hk : k < l.length) (h : ¬ Chk l k hk) : right l = false := right_false (fun t => h (t.chk k hk))

/-- A node in a box of its own. -/
theorem NdAt.box (w : World) (x : Nd) : NdAt (w.alloc (Obj.cells #[.string (B x.path), .string (B x.data), .int .i64 x.ver, .int .i64 x.turn, .int .i64 x.own] 81)) w.heap.size 0 x := by
  have h := heap_alloc_new w (Obj.cells #[.string (B x.path), .string (B x.data), .int .i64 x.ver, .int .i64 x.turn, .int .i64 x.own] 81)
  exact ⟨by rw [cell_of_row _ _ _ _ _ _ h]; rfl, by rw [cell_of_row _ _ _ _ _ _ h]; rfl, by rw [cell_of_row _ _ _ _ _ _ h]; rfl, by rw [cell_of_row _ _ _ _ _ _ h]; rfl, by rw [cell_of_row _ _ _ _ _ _ h]; rfl⟩
theorem NdAt.five {w : World} {g : Nat} {x : Nd} (h : NdAt w g 0 x) : w.cell? ⟨g, 0, none⟩ = some (.string (B x.path)) ∧ w.cell? ⟨g, 1, none⟩ = some (.string (B x.data)) ∧ w.cell? ⟨g, 2, none⟩ = some (.int .i64 x.ver) ∧ w.cell? ⟨g, 3, none⟩ = some (.int .i64 x.turn) ∧ w.cell? ⟨g, 4, none⟩ = some (.int .i64 x.own) :=
  ⟨h.c0, h.c1, h.c2, h.c3, h.c4⟩

/-- One place more that is right. -/
theorem find_new {l : List Nd} {k : Nat} (hk : k < l.length) (h : ∀ j (h : j < l.length), j < k → Chk l j h) (hlt : 0 < k → ∀ h' : k - 1 < l.length, lt l[k-1].path l[k].path = true) : find (l.take k) l[k].path = none := by
  have hA : Asc (l.take (k + 1)) := asc_of (fun i hi => by
    rw [List.length_take] at hi
    simp only [List.getElem_take]
    rcases Nat.lt_or_eq_of_le (show i + 1 ≤ k by omega) with e | e
    · have := ((h (i + 1) (by omega) e).2 (by omega)).1 (by omega)
      simpa using this
    · have := hlt (by omega) (by omega)
      simp only [← e] at this ⊢
      simpa using this)
  rw [find_none]
  intro x hx e
  obtain ⟨i, hi, rfl⟩ := List.getElem_of_mem hx
  rw [List.length_take] at hi
  have := hA i k (by rw [List.length_take]; omega) (by rw [List.length_take]; omega) (by omega)
  simp only [List.getElem_take] at this e
  rw [e, lt_irrefl] at this; cases this
theorem RgM.next {l : List Nd} {m : Nat} {w wr w1 w2 : World} {k : Nat} (h : RgM l m w k wr) (hk : k < l.length) (f : Fp Non wr w1) (hc : Chk l k hk) (hu : OuR m (l.take k ++ [l[k]]) w1 w2) : RgM l m w (k + 1) w2 := by
  refine ⟨(h.fp.then f).trans hu.fp (fun j hj => .inr (by rw [hj]; exact h.lo)), ?_, fun j hj hjk => ?_, h.lo⟩
  · rw [List.take_succ_eq_append_getElem hk]; exact hu.om
  · rcases Nat.lt_or_eq_of_le (show j ≤ k by omega) with e | e
    · exact h.chk j hj e
    · subst e; exact hc

end Go.Proofs.Ytlmfinpmlilcgaa

/- Right, whole; what asks of nodes: IndexFunc, Find, ContainsFunc, childOf. -/
namespace Go.Proofs.Ytlmfinpmlilcgaa
set_option maxRecDepth 20000
open Go.RowKit Pm

/-- A function value that tells of a node what q does, in whatever world that differs from wc in S alone. -/
structure Pd (S : Nat → Prop) (wc : World) (f : Value) (q : Nd → Bool) : Prop where
  ex : ∃ k fi cap, f = .func (.func k) fi cap ∧ Enters Try.prog k ∧ ∀ n w1, n.path.length ≤ 1000000 → Fp S wc w1 →
    Calls Try.prog k (fi ++ #[ndV n] ++ cap) w1 fun e w2 => e = .returned (.bool (q n)) ∧ Fp Non w1 w2
theorem Pd.later {S : Nat → Prop} {wc w : World} {f : Value} {q : Nd → Bool} (h : Pd S wc f q) (g : Fp S wc w) : Pd S w f q := by
  obtain ⟨k, fi, cap, e, h1, h2⟩ := h.ex
  exact ⟨k, fi, cap, e, h1, fun n w1 hn hf => h2 n w1 hn (g.same hf)⟩
theorem Pd.non {S : Nat → Prop} {wc : World} {f : Value} {q : Nd → Bool} (h : Pd S wc f q) : Pd Non wc f q := by
  obtain ⟨k, fi, cap, e, h1, h2⟩ := h.ex
  exact ⟨k, fi, cap, e, h1, fun n w1 hn hf => h2 n w1 hn hf.any⟩

/-- Where the first one is. -/
def Idx (q : Nd → Bool) (l : List Nd) (z : Int) : Prop := (z = -1 ∧ ∀ n ∈ l, q n = false) ∨ ∃ i, z = ((i : Nat) : Int) ∧ ∃ h : i < l.length, q l[i] = true ∧ ∀ j (hj : j < l.length), j < i → q l[j] = false

theorem Idx.pos {q : Nd → Bool} {l : List Nd} {z : Int} (h : Idx q l z) : decide (0 ≤ z) = l.any q := by
  rcases h with ⟨rfl, h⟩ | ⟨i, rfl, hi, h, _⟩
  · have : l.any q = false := by rw [List.any_eq_false]; intro x hx; simp [h x hx]
    rw [this]; rfl
  · have : l.any q = true := List.any_eq_true.2 ⟨_, List.getElem_mem hi, h⟩
    rw [this]; simp

theorem idx_find {l : List Nd} {p : Bs} {z : Int} (h : Idx (fun n => n.path == p) l z) : (z = -1 ∧ find l p = none) ∨ ∃ i, z = ((i : Nat) : Int) ∧ ∃ h : i < l.length, find l p = some l[i] := by
  rcases h with ⟨rfl, h⟩ | ⟨i, rfl, hi, h, hj⟩
  · refine .inl ⟨rfl, find_none.2 fun x hx e => ?_⟩
    have := h x hx
    simp [e] at this
  · refine .inr ⟨i, rfl, hi, ?_⟩
    unfold find
    rw [List.find?_eq_some_iff_getElem]
    refine ⟨h, i, hi, rfl, fun j hji => ?_⟩
    have := hj j (by omega) hji
    simp [this]

/-- Five cells of a block of one's own, stored anew. -/
theorem set5 {w : World} {b : Nat} {T : TypeId} {a0 a1 a2 a3 a4 : Value} (h : w.heap[b]? = some (.cells #[a0, a1, a2, a3, a4] T (0, 0))) (v0 v1 v2 v3 v4 : Value) :
    (((((w.setCell ⟨b, 0, none⟩ v0).setCell ⟨b, 1, none⟩ v1).setCell ⟨b, 2, none⟩ v2).setCell ⟨b, 3, none⟩ v3).setCell ⟨b, 4, none⟩ v4).heap[b]? = some (.cells #[v0, v1, v2, v3, v4] T (0, 0)) := by
  have h1 := heap_setCell_same w b 0 _ T v0 h
  have h2 := heap_setCell_same _ b 1 _ T v1 h1
  have h3 := heap_setCell_same _ b 2 _ T v2 h2
  have h4 := heap_setCell_same _ b 3 _ T v3 h3
  have h5 := heap_setCell_same _ b 4 _ T v4 h4
  exact h5
theorem fp5 {S : Nat → Prop} {a w : World} (f : Fp S a w) {b : Nat} (hb : S b ∨ a.heap.size ≤ b) (v0 v1 v2 v3 v4 : Value) :
    Fp S a (((((w.setCell ⟨b, 0, none⟩ v0).setCell ⟨b, 1, none⟩ v1).setCell ⟨b, 2, none⟩ v2).setCell ⟨b, 3, none⟩ v3).setCell ⟨b, 4, none⟩ v4) :=
  ((((f.setCell (p := ⟨b, 0, none⟩) hb v0).setCell (p := ⟨b, 1, none⟩) hb v1).setCell (p := ⟨b, 2, none⟩) hb v2).setCell (p := ⟨b, 3, none⟩) hb v3).setCell (p := ⟨b, 4, none⟩) hb v4

def zeroNd : Nd := ⟨[], [], 0, 0, 0⟩

end Go.Proofs.Ytlmfinpmlilcgaa

/- childOf; where a path lies: BinarySearchFunc, place. -/
namespace Go.Proofs.Ytlmfinpmlilcgaa
set_option maxRecDepth 20000
open Go.RowKit Pm

/-- strings.Compare's number, by the order. -/
def cmpI (a b : Bs) : Int := if lt a b = true then -1 else if a = b then 0 else 1
theorem cmp_eq : ∀ a b : Bs, Lib.compareBytes a b = cmpI a b
  | [], [] => rfl
  | [], _ :: _ => rfl
  | x :: a, [] => by unfold cmpI; rw [lt_nil_right]; simp [Lib.compareBytes]
  | x :: a, y :: b => by
    have ih := cmp_eq a b
    unfold Lib.compareBytes cmpI
    rw [lt_cons]
    by_cases h1 : x < y
    · simp [h1]
    · rw [if_neg h1]
      by_cases h2 : y < x
      · have hne : x ≠ y := fun e => by subst e; exact h1 h2
        simp [h1, h2, hne]
      · have e : x = y := UInt8.le_antisymm (UInt8.not_lt.1 h2) (UInt8.not_lt.1 h1)
        subst e
        rw [if_neg h2, ih]
        unfold cmpI
        simp [h1]

/-- Between i and j it lies. -/
structure BsM (l : List Nd) (p : Bs) (w : World) (i j : Nat) (wr : World) : Prop where
  fp : Fp Non w wr
  lo : ∀ x (h : x < l.length), x < i → lt l[x].path p = true
  hi : ∀ x (h : x < l.length), j ≤ x → lt l[x].path p = false
  ij : i ≤ j
  jn : j ≤ l.length

end Go.Proofs.Ytlmfinpmlilcgaa

/- The tree that an operation works on; place; May. -/
namespace Go.Proofs.Ytlmfinpmlilcgaa
set_option maxRecDepth 20000
open Go.RowKit Pm

def opV (o : Opn) : Value := .agg #[.int .i64 o.kind, strV o.path, strV o.data, .int .i64 o.ver, .int .i64 o.own, .bool o.turns]

def ownT (b G : Nat) : Nat → Prop := fun k => k = b ∨ k = G
section
variable {lo b G cap : Nat} {l : List Nd} {w w' : World}
end

theorem box6 {w : World} {b : Nat} {T : TypeId} {c0 c1 c2 c3 c4 c5 : Value} (h : w.heap[b]? = some (.cells #[c0, c1, c2, c3, c4, c5] T (0, 0))) :
    w.cell? ⟨b, 0, none⟩ = some c0 ∧ w.cell? ⟨b, 1, none⟩ = some c1 ∧ w.cell? ⟨b, 2, none⟩ = some c2 ∧ w.cell? ⟨b, 3, none⟩ = some c3 ∧ w.cell? ⟨b, 4, none⟩ = some c4 ∧ w.cell? ⟨b, 5, none⟩ = some c5 :=
  ⟨by rw [cell_of_row _ _ _ _ _ _ h]; rfl, by rw [cell_of_row _ _ _ _ _ _ h]; rfl, by rw [cell_of_row _ _ _ _ _ _ h]; rfl, by rw [cell_of_row _ _ _ _ _ _ h]; rfl, by rw [cell_of_row _ _ _ _ _ _ h]; rfl, by rw [cell_of_row _ _ _ _ _ _ h]; rfl⟩
end Go.Proofs.Ytlmfinpmlilcgaa

/- The document's Find; Great. -/
namespace Go.Proofs.Ytlmfinpmlilcgaa
set_option maxRecDepth 20000
set_option linter.unusedVariables false
set_option linter.unusedSimpArgs false
open Go.RowKit Pm

theorem box5 {w : World} {b : Nat} {T : TypeId} {c0 c1 c2 c3 c4 : Value} (h : w.heap[b]? = some (.cells #[c0, c1, c2, c3, c4] T (0, 0))) :
    w.cell? ⟨b, 0, none⟩ = some c0 ∧ w.cell? ⟨b, 1, none⟩ = some c1 ∧ w.cell? ⟨b, 2, none⟩ = some c2 ∧ w.cell? ⟨b, 3, none⟩ = some c3 ∧ w.cell? ⟨b, 4, none⟩ = some c4 :=
  ⟨by rw [cell_of_row _ _ _ _ _ _ h]; rfl, by rw [cell_of_row _ _ _ _ _ _ h]; rfl, by rw [cell_of_row _ _ _ _ _ _ h]; rfl, by rw [cell_of_row _ _ _ _ _ _ h]; rfl, by rw [cell_of_row _ _ _ _ _ _ h]; rfl⟩
/-- Ahead of round k of the document's Find. -/
structure RfM (l : List Nd) (p : Bs) (w : World) (k : Nat) (wr : World) : Prop where
  row : wr.heap[w.heap.size]? = some (.cells #[.string ⟨#[]⟩, .string ⟨#[]⟩, .int .i64 0, .int .i64 0, .int .i64 0] TN (0, 0))
  fp : Fp Non w wr
  no : ∀ j (hj : j < l.length), j < k → l[j].path ≠ p
theorem RfM.next {l : List Nd} {p : Bs} {w wr : World} {k : Nat} (h : RfM l p w k wr) (hk : k < l.length) (hp : l[k].path ≠ p) : RfM l p w (k + 1) wr :=
  ⟨h.row, h.fp, fun j hj hjk => by
    rcases Nat.lt_or_eq_of_le (show j ≤ k by omega) with e | e
    · exact h.no j hj e
    · subst e; exact hp⟩
theorem RfM.found {l : List Nd} {p : Bs} {w wr : World} {k : Nat} (h : RfM l p w k wr) (hk : k < l.length) (hp : l[k].path = p) : find l p = some l[k] := by
  unfold find
  rw [List.find?_eq_some_iff_getElem]
  refine ⟨by simp [hp], k, hk, rfl, fun j hji => ?_⟩
  have := h.no j (by omega) hji
  simp [this]
theorem RfM.none {l : List Nd} {p : Bs} {w wr : World} {k : Nat} (h : RfM l p w k wr) (hk : k = l.length) : find l p = none := by
  rw [find_none]
  intro x hx
  obtain ⟨j, hj, rfl⟩ := List.getElem_of_mem hx
  exact h.no j hj (by omega)

end Go.Proofs.Ytlmfinpmlilcgaa

/- The document's Same. -/
namespace Go.Proofs.Ytlmfinpmlilcgaa
set_option maxRecDepth 20000
set_option linter.unusedVariables false
set_option linter.unusedSimpArgs false
open Go.RowKit Pm

theorem fN : (Try.prog.fieldsOf TN).toList = [⟨ "Path", 9, 0, false, "", "", 0⟩, ⟨ "Data", 9, 1, false, "", "", 16⟩, ⟨ "Version", 2, 2, false, "", "", 32⟩, ⟨ "Turn", 2, 3, false, "", "", 40⟩, ⟨ "Owner", 2, 4, false, "", "", 48⟩] := by kernel_rfl
theorem eq_nd (w : World) (p p' d d' : ByteArray) (v v' t t' o o' : Int) : (Op.equalIn 10000 TN (.agg #[.string p, .string d, .int .i64 v, .int .i64 t, .int .i64 o]) (.agg #[.string p', .string d', .int .i64 v', .int .i64 t', .int .i64 o'])).run Try.prog w =
    .ok (decide (p.toList = p'.toList ∧ d.toList = d'.toList ∧ v = v' ∧ t = t' ∧ o = o')) w := by
  rw [run_equalIn_agg w 9999 TN _ _ (by kernel_rfl) (by kernel_rfl), fN]
  have e2 := fun w a b => run_equalIn_int (P := Try.prog) w 9998 2 .i64 .i64 a b Try.underlying2
  have e3 := fun w a b => run_equalIn_string (P := Try.prog) w 9998 9 a b Try.underlying9
  simp only [Op.eqFields]
  simp [e2, e3, go_sem]
  by_cases h2 : p.toList = p'.toList <;> by_cases h3 : d.toList = d'.toList <;> by_cases h4 : v = v' <;> by_cases h5 : t = t' <;> by_cases h6 : o = o' <;> simp [h2, h3, h4, h5, h6]
theorem B_list (l : Bs) : (B l).toList = l := by
  unfold B; simp [ByteArray.toList_eq]
theorem eq_nds (w : World) (x y : Nd) : (Op.equalIn 10000 TN (.agg #[.string (B x.path), .string (B x.data), .int .i64 x.ver, .int .i64 x.turn, .int .i64 x.own]) (.agg #[.string (B y.path), .string (B y.data), .int .i64 y.ver, .int .i64 y.turn, .int .i64 y.own])).run Try.prog w = .ok (decide (x = y)) w := by
  rw [eq_nd]
  congr 1
  simp only [B_list]
  obtain ⟨_, _, _, _, _⟩ := x
  obtain ⟨_, _, _, _, _⟩ := y
  simp

/-- Ahead of round k of Same. -/
structure SaM (a b : List Nd) (w : World) (k : Nat) (wr : World) : Prop where
  fp : Fp Non w wr
  eq : a.take k = b.take k
theorem take_succ_eq {a b : List Nd} {k : Nat} (ha : k < a.length) (hb : k < b.length) (h : a.take k = b.take k) (e : a[k] = b[k]) : a.take (k + 1) = b.take (k + 1) := by
  rw [List.take_succ_eq_append_getElem ha, List.take_succ_eq_append_getElem hb, h, e]

set_option maxHeartbeats 2000000 in
theorem rSameN_c (va vb : Value) (a b : List Nd) (w : World) (hva : Ns w va a) (hvb : Ns w vb b) (hn : a.length ≤ 1000000) (hm : b.length ≤ 1000000) :
    Calls Try.prog 55 #[va, vb] w fun e w' => e = .returned (.bool (decide (a = b))) ∧ Fp Non w w' := by
  obtain ⟨ao, ca, rfl⟩ := hva.shape
  obtain ⟨bo, cb, rfl⟩ := hvb.shape
  by_cases hl : a.length = b.length
  · obtain ⟨n, hnn⟩ : ∃ n, n = a.length := ⟨_, rfl⟩
    have hnb : n ≤ 1000000 := by omega
    have HX := Lib.hid (And.intro hnn (And.intro (show n = b.length by omega) (And.intro hva hvb)))
    rw [← hl, ← hnn]
    have H0 : Hid (SaM a b w 0 w) := ⟨Fp.refl _ _, by simp⟩
    have heq := eq_nds
    clear hva hvb hl hn hm hnn
    go_enter Try.func55, Try.ntmps55
    go_wp2_with fail
    go_loopw [5] (fun i wr => ∃ k : Nat, k ≤ n ∧ i = .int .i64 k ∧ Hid (SaM a b w k wr)) (fun i _ => n - (RowKit.intOf i).toNat)
    case atStart => exact ⟨0, Nat.zero_le _, rfl, H0⟩
    case round =>
      clear H0
      obtain ⟨k, hk, rfl, hR⟩ := hrel
      rename_i wr _
      by_cases hlt : k < n
      · have hka : k < a.length := by rw [← HX.out.1]; exact hlt
        have hkb : k < b.length := by rw [← HX.out.2.1]; exact hlt
        obtain ⟨g, o, cap', e, _, _, _, hcell⟩ := HX.out.2.2.1.at (by omega)
        injection e with e1 e2 e3
        subst e1 e3
        obtain ⟨g', o', cap', e, _, _, _, hcell'⟩ := HX.out.2.2.2.at (by omega)
        injection e with e1 e2 e3
        subst e1 e3
        have hnd := (hcell k hka).keep hR.out.fp (fun h => h)
        have hnd' := (hcell' k hkb).keep hR.out.fp (fun h => h)
        have q3 : ((k : Int) < (n : Int)) = True := eq_true (by omega)
        have q4 : (k < n) = True := eq_true hlt
        have hnx := fun e wr' (f : Fp Non wr wr') => (show SaM a b w (k + 1) wr' from ⟨hR.out.fp.then f, take_succ_eq hka hkb hR.out.eq e⟩)
        have hno := fun (e : a[k] ≠ b[k]) => (show a ≠ b from fun h => e (by subst h; rfl))
        have HNX := Lib.hid hnx
        have HNO := Lib.hid hno
        have HL := Lib.hid hlt
        clear hcell hcell' hnx hno hlt
        generalize a[k] = x at *
        generalize b[k] = y at *
        have c0 := hnd.c0; have c1 := hnd.c1; have c2 := hnd.c2; have c3 := hnd.c3; have c4 := hnd.c4
        have d0 := hnd'.c0; have d1 := hnd'.c1; have d2 := hnd'.c2; have d3 := hnd'.c3; have d4 := hnd'.c4
        unfold strV at c0 c1 d0 d1
        clear hnd hnd' hka hkb
        by_cases hxy : x = y
        · have q5 : decide (x = y) = true := decide_eq_true hxy
          have q6 : (x = y) = True := eq_true hxy
          have hM := Lib.hid (HNX.out hxy)
          have hj := HL.out
          clear hxy
          go_wp2_with fail
          go_quiet (fail)
          go_wp2
          go_roundw
          case rel => exact ⟨k + 1, by omega, by go_num, hM.out _ ((Fp.refl _ _).drewN _)⟩
          case measure => simp [RowKit.intOf]; omega
        · have q5 : decide (x = y) = false := decide_eq_false hxy
          have q6 : (x = y) = False := eq_false hxy
          have HN := Lib.hid (HNO.out hxy)
          clear hxy
          go_wp2_with fail
          go_quiet (fail)
          go_wp2
          go_ret
          exact ⟨by rw [decide_eq_false HN.out]; rfl, hR.out.fp.drewN _⟩
      · have hke : k = n := by omega
        subst hke
        have q3 : ((k : Int) < (k : Int)) = False := eq_false (by omega)
        have hfin : a = b := by
          have := hR.out.eq
          rw [HX.out.1, List.take_length, ← HX.out.1, HX.out.2.1, List.take_length] at this; exact this
        have HFN := Lib.hid hfin
        clear hlt hk hfin
        go_wp2
        go_ret
        exact ⟨by rw [decide_eq_true HFN.out]; rfl, hR.out.fp⟩
  · have HN := Lib.hid (show a ≠ b from fun h => hl (by rw [h]))
    have q1 : ((a.length : Int) == (b.length : Int)) = false := beq_eq_false_iff_ne.2 (by omega)
    have q2 : ((a.length : Int) = (b.length : Int)) = False := eq_false (by omega)
    have q3 : (a.length == b.length) = false := beq_eq_false_iff_ne.2 hl
    have q4 : (a.length = b.length) = False := eq_false hl
    clear hl hva hvb hn hm
    go_enter Try.func55, Try.ntmps55
    go_wp2
    go_ret
    exact ⟨by rw [decide_eq_false HN.out]; rfl, Fp.refl _ _⟩
end Go.Proofs.Ytlmfinpmlilcgaa

/- Is it too much? -/
namespace Go.Proofs.Ytlmfinpmlilcgaa
set_option maxRecDepth 20000
set_option linter.unusedVariables false
set_option linter.unusedSimpArgs false
open Go.RowKit Pm

/-- Ahead of round k of Great. -/
structure GrM (l : List Nd) (w : World) (k : Nat) (N : Int) (wr : World) : Prop where
  fp : Fp Non w wr
  lo : 3 * (l.length : Int) ≤ N
  eq : ∀ j (h : j < l.length), j < k → (min (l[j].path.length : Int) 5000 ≤ N ∧ min (l[j].data.length : Int) 5000 ≤ N)

theorem min5 (a : Nat) : (0 : Int) ≤ min (a : Int) 5000 ∧ min (a : Int) 5000 ≤ 5000 := by omega
theorem GrM.next {l : List Nd} {w wr wr' : World} {k : Nat} {N : Int} (h : GrM l w k N wr) (f : Fp Non wr wr') (hk : k < l.length) :
    GrM l w (k + 1) (N + min (l[k].path.length : Int) 5000 + min (l[k].data.length : Int) 5000) wr' := by
  have hN : 0 ≤ N := by have := h.lo; omega
  have m1 := min5 l[k].path.length
  have m2 := min5 l[k].data.length
  refine ⟨h.fp.then f, by have := h.lo; omega, fun j hj hjk => ?_⟩
  rcases Nat.lt_or_eq_of_le (show j ≤ k by omega) with e | e
  · have := h.eq j hj e
    omega
  · subst e
    omega
theorem GrM.few {l : List Nd} {w wr : World} {k : Nat} {N : Int} (h : GrM l w k N wr) (hk : k = l.length) (hN : N < 5000) : l.length ≤ 1667 ∧ ∀ x ∈ l, x.path.length ≤ 5000 ∧ x.data.length ≤ 5000 := by
  refine ⟨by have := h.lo; omega, fun x hx => ?_⟩
  obtain ⟨j, hj, rfl⟩ := List.getElem_of_mem hx
  have := h.eq j hj (by omega)
  omega

set_option maxHeartbeats 6000000 in
theorem Great_c (v : Value) (l : List Nd) (w : World) (hv : Ns w v l) (hn : l.length ≤ 140737488355328) :
    Calls Try.prog 29 #[v] w fun e w' => ∃ g : Bool, e = .returned (.bool g) ∧ (g = false → l.length ≤ 1667 ∧ ∀ x ∈ l, x.path.length ≤ 5000 ∧ x.data.length ≤ 5000) ∧ Fp Non w w' := by
  obtain ⟨ao, cap, rfl⟩ := hv.shape
  obtain ⟨n, hnn⟩ : ∃ n, n = l.length := ⟨_, rfl⟩
  have HX := Lib.hid (And.intro hnn hv)
  rw [← hnn]
  have hnb : n ≤ 140737488355328 := by omega
  clear hv hn hnn
  go_enter Try.func29, Try.ntmps29
  go_wp2_with fail
  go_loopw [3, 4] (fun m i wr => ∃ k : Nat, k ≤ n ∧ i = .int .i64 k ∧ ∃ N : Int, m = .int .i64 N ∧ (0 ≤ N ∧ N ≤ 422212465095680) ∧ Hid (GrM l w k N wr)) (fun _ i _ => n - (RowKit.intOf i).toNat)
  case atStart => exact ⟨0, Nat.zero_le _, rfl, 3 * (n : Int), by go_num, by omega, ⟨Fp.refl _ _, by rw [HX.out.1]; exact Int.le_refl _, fun j _ h => absurd h (Nat.not_lt_zero j)⟩⟩
  case round =>
    obtain ⟨k, hk, rfl, N, rfl, hN, hR⟩ := hrel
    rename_i wr _
    by_cases hlt : k < n
    · have hkl : k < l.length := by rw [← HX.out.1]; exact hlt
      have q3 : ((k : Int) < (n : Int)) = True := eq_true (by omega)
      have q4 : (k < n) = True := eq_true hlt
      by_cases hN5 : N < 5000
      · have q5 : (N < 5000) = True := eq_true hN5
        obtain ⟨g, o, cap', e, _, _, _, hcell⟩ := HX.out.2.at (by omega)
        injection e with e1 e2 e3
        subst e1 e3
        have hnd := (hcell k hkl).keep hR.out.fp (fun h => h)
        clear hcell
        have hnx := fun wr' f => hR.out.next (wr' := wr') f hkl
        have HNX := Lib.hid hnx
        have HL := Lib.hid (And.intro hlt hN5)
        clear hnx hlt hN5
        generalize l[k] = x at *
        clear hkl
        have c0 := hnd.c0; have c1 := hnd.c1
        unfold strV at c0 c1
        have HB := Lib.hid (And.intro (min5 x.path.length) (min5 x.data.length))
        clear hnd
        go_wp2_with fail
        go_quiet (fail)
        go_wp2_with fail
        have hb := HB.out
        have hj := HL.out
        refine ⟨⟨k + 1, by omega, by go_num, _, rfl, ⟨by omega, by omega⟩, HNX.out _ ((Fp.refl _ _).drewN _)⟩, ?_⟩
        simp [RowKit.intOf]; omega
      · have q5 : (N < 5000) = False := eq_false hN5
        have q6 : ((5000 : Int) ≤ N) = True := eq_true (by omega)
        clear hN5 hkl hlt
        go_wp2
        go_ret
        exact ⟨true, rfl, fun h => by simp at h, hR.out.fp⟩
    · have hke : k = n := by omega
      subst hke
      have q3 : ((k : Int) < (k : Int)) = False := eq_false (by omega)
      by_cases hN5 : N < 5000
      · have q6 : ((5000 : Int) ≤ N) = False := eq_false (by omega)
        have hfw := hR.out.few HX.out.1 hN5
        rw [← HX.out.1] at hfw
        have HFW := Lib.hid hfw
        clear hfw hN5 hlt hk
        go_wp2
        go_ret
        exact ⟨false, rfl, fun _ => HFW.out, hR.out.fp⟩
      · have q6 : ((5000 : Int) ≤ N) = True := eq_true (by omega)
        clear hN5 hlt hk
        go_wp2
        go_ret
        exact ⟨true, rfl, fun h => by simp at h, hR.out.fp⟩
end Go.Proofs.Ytlmfinpmlilcgaa

/- The arguments of the laws: nodes. -/
namespace Go.Proofs.Ytlmfinpmlilcgaa
set_option maxRecDepth 20000
open Go.ChangeShapes Go.WideShapes Go.ChangeAt Go.RowKit Pm Go.Deep
open Go.WideMaps Go.WideElems
open Go.ChangeMaps (setBlock shut_map_nil open_string shut_string)

theorem spot_none {w : World} {a : Addr} {v : Value} (h : w.cell? a = some v) : ∃ g o, a = ⟨g, o, none⟩ := by
  obtain ⟨g, o, spot⟩ := a
  have hs : spot = none := World.cell?_spot h
  exact ⟨g, o, by rw [hs]⟩
theorem Try.cellsNd : Try.prog.cellsOf 81 = 5 := by kernel_rfl
theorem Try.bytesNd : Try.prog.bytesOf 81 = 56 := by kernel_rfl
theorem Try.cellsStr' : Try.prog.cellsOf 9 = 1 := by kernel_rfl
theorem Try.cellsInt : Try.prog.cellsOf 3 = 1 := by kernel_rfl
theorem Try.cellsBoo : Try.prog.cellsOf 4 = 1 := by kernel_rfl
theorem Try.cellsI64 : Try.prog.cellsOf 2 = 1 := by kernel_rfl

section
variable {H : Type} {enc : TypeId × Value → H} {W : World}

theorem nd_of {n : Nat} {cs : List Value} {y : DataW H × List MemPlace} (hlen : cs.length = 5) (h : DataW.trod enc Try.prog W 0 (fun _ => true) true n 81 cs = some y) :
    ∃ x : Nd, cs = ndC x ∧ x.path.length ≤ maxLen ∧ x.data.length ≤ maxLen := by
  obtain ⟨xs, k, hk, hxy, _, hxl, hf⟩ := DataW.trod_struct Try.underlying81 h
  match xs, hxl, cs, hlen with
  | [y0, y1, y2, y3, y4], _, [v0, v1, v2, v3, v4], _ =>
    have g0 := hf 0 _ rfl
    have g1 := hf 1 _ rfl
    have g2 := hf 2 _ rfl
    have g3 := hf 3 _ rfl
    have g4 := hf 4 _ rfl
    simp [Try.cellsStr'] at g0
    simp [Try.cellsStr'] at g1
    simp [Try.cellsI64] at g2
    simp [Try.cellsI64] at g3
    simp [Try.cellsI64] at g4
    obtain ⟨z0, e0, _, h0⟩ := DataW.trod_string Try.underlying9 g0
    obtain ⟨z1, e1, _, h1⟩ := DataW.trod_string Try.underlying9 g1
    obtain ⟨z2, e2, _, _⟩ := DataW.trod_int Try.underlying2 g2
    obtain ⟨z3, e3, _, _⟩ := DataW.trod_int Try.underlying2 g3
    obtain ⟨z4, e4, _, _⟩ := DataW.trod_int Try.underlying2 g4
    simp only [List.cons.injEq, and_true] at e0 e1 e2 e3 e4
    subst e0 e1 e2 e3 e4
    refine ⟨⟨z0.data.toList, z1.data.toList, z2, z3, z4⟩, ?_, ?_, ?_⟩
    · unfold ndC strV; rw [← B_of, ← B_of]
    · simpa using h0
    · simpa using h1

/-- []Node, opened. -/
theorem open_nodes {v : Value} {d : DataW H} {p : List MemPlace} {base : Nat} (hv : Value.okWide Try.prog W .any base 23 v) (h : DataW.Trod enc Try.prog W 0 (fun _ => true) true 23 v d p) (hsz : ∀ n ∈ d.weights Try.prog 23, n ≤ reachBytes) :
    ∃ l, Ns W v l ∧ l.length ≤ 140737488355328 ∧ ∀ x ∈ l, x.path.length ≤ maxLen ∧ x.data.length ≤ maxLen := by
  obtain ⟨a0, len, cap, rfl⟩ := okWide_slice Try.underlying23 hv
  obtain ⟨fuel, hf⟩ := h
  have hf : DataW.trod enc Try.prog W 0 (fun _ => true) true fuel 23 [.slice a0 len cap] = some (d, p) := by simpa [Value.cells] using hf
  rcases open_slice Try.underlying23 hf with ⟨hcs, hx⟩ | ⟨a, len', cap', m, n, D, Pl, hcs, _, hl, hm, hmm, hx, hel⟩
  · simp only [List.cons.injEq, Value.slice.injEq, and_true] at hcs
    obtain ⟨rfl, rfl, rfl⟩ := hcs
    exact ⟨[], Ns.nil W, Nat.zero_le _, fun _ h => by cases h⟩
  · simp only [List.cons.injEq, Value.slice.injEq, and_true] at hcs
    obtain ⟨rfl, rfl, rfl⟩ := hcs
    simp only [if_true] at hmm
    subst hmm
    have hlb : len ≤ 140737488355328 := by
      simp only [Prod.mk.injEq] at hx
      rw [hx.1] at hsz
      simp only [DataW.weights, Try.underlying23] at hsz
      have := hsz _ (List.mem_cons_self ..)
      rw [Try.bytesNd] at this
      simp only [List.length_map, List.length_range, reachBytes] at this
      omega
    have each : ∀ i, i < len → ∃ x : Nd, (∀ j (hj : j < 5), W.cell? (a.add (i * 5 + j)) = (ndC x)[j]?) ∧ x.path.length ≤ maxLen ∧ x.data.length ≤ maxLen := by
      intro i hi
      obtain ⟨cs', h1, h2⟩ := hel i (by omega)
      rw [Try.cellsNd] at h1
      obtain ⟨_, hlen, hcell⟩ := World.cells?_some h1
      obtain ⟨x, rfl, h3, h4⟩ := nd_of hlen h2
      refine ⟨x, fun j hj => ?_, h3, h4⟩
      have := hcell j (by omega)
      rw [add_add] at this
      exact this
    obtain ⟨f, hfi⟩ : ∃ f : Nat → Nd, ∀ i, i < len → (∀ j (hj : j < 5), W.cell? (a.add (i * 5 + j)) = (ndC (f i))[j]?) ∧ (f i).path.length ≤ maxLen ∧ (f i).data.length ≤ maxLen := by
      haveI : Inhabited Nd := ⟨zeroNd⟩
      exact choose_lt each
    have hlen : ((List.range len).map f).length = len := by simp
    by_cases h0 : len = 0
    · subst h0
      exact ⟨[], ⟨some a, m, rfl, by simp, hm, .inl rfl⟩, Nat.zero_le _, fun _ h => by cases h⟩
    · have hc0 := (hfi 0 (by omega)).1 0 (by omega)
      have hc0 : W.cell? a = some (.string (B (f 0).path)) := by simpa [Addr.add, ndC, strV] using hc0
      have hlt := World.block_lt_of_cell? W a hc0
      obtain ⟨g, o, rfl⟩ := spot_none hc0
      refine ⟨(List.range len).map f, ⟨some ⟨g, o, none⟩, m, by rw [hlen], by rw [hlen]; exact hl, hm, .inr ⟨g, o, rfl, hlt, fun i hi => ?_⟩⟩, by rw [hlen]; exact hlb, fun x hx => ?_⟩
      · rw [hlen] at hi
        obtain ⟨k1, _, _⟩ := hfi i (by omega)
        simp only [List.getElem_map, List.getElem_range]
        have q0 := k1 0 (by omega)
        have q1 := k1 1 (by omega)
        have q2 := k1 2 (by omega)
        have q3 := k1 3 (by omega)
        have q4 := k1 4 (by omega)
        rw [Addr.add_lit] at q0 q1 q2 q3 q4
        exact ⟨by simpa [ndC] using q0, by simpa [Nat.add_assoc, ndC] using q1, by simpa [Nat.add_assoc, ndC] using q2, by simpa [Nat.add_assoc, ndC] using q3, by simpa [Nat.add_assoc, ndC] using q4⟩
      · obtain ⟨i, hi, rfl⟩ := List.mem_map.1 hx
        exact (hfi i (List.mem_range.1 hi)).2

end
end Go.Proofs.Ytlmfinpmlilcgaa

/- The arguments of the laws, on: texts, operations. -/
namespace Go.Proofs.Ytlmfinpmlilcgaa
set_option maxRecDepth 20000
set_option linter.unusedVariables false
set_option linter.unusedSimpArgs false
open Go.ChangeShapes Go.WideShapes Go.ChangeAt Go.RowKit Pm Go.Deep
open Go.WideMaps Go.WideElems
open Go.ChangeMaps (setBlock shut_map_nil open_string shut_string)

/-- A slice that reads as texts. -/
structure Tx (w : World) (v : Value) (l : List Bs) : Prop where
  ex : ∃ ao cap, v = .slice ao l.length cap ∧ (l = [] ∨ ∃ g o, ao = some ⟨g, o, none⟩ ∧ ∀ i (h : i < l.length), w.cell? ⟨g, o + i, none⟩ = some (.string (B l[i])))
theorem Tx.non {w w' : World} {v : Value} {l : List Bs} (h : Tx w v l) (f : Fp Non w w') : Tx w' v l := by
  obtain ⟨ao, cap, rfl, h3⟩ := h.ex
  refine ⟨ao, cap, rfl, ?_⟩
  rcases h3 with h3 | ⟨g, o, rfl, hc⟩
  · exact .inl h3
  · exact .inr ⟨g, o, rfl, fun i hi => f.cell (hc i hi) (fun h => h)⟩
theorem Tx.shape {w : World} {v : Value} {l : List Bs} (h : Tx w v l) : ∃ ao cap, v = .slice ao l.length cap := by
  obtain ⟨ao, cap, rfl, _⟩ := h.ex; exact ⟨ao, cap, rfl⟩
theorem Tx.at {w : World} {v : Value} {l : List Bs} (h : Tx w v l) (h0 : 0 < l.length) : ∃ g o cap, v = .slice (some ⟨g, o, none⟩) l.length cap ∧ ∀ i (h : i < l.length), w.cell? ⟨g, o + i, none⟩ = some (.string (B l[i])) := by
  obtain ⟨ao, cap, rfl, h3⟩ := h.ex
  rcases h3 with h3 | ⟨g, o, rfl, hc⟩
  · subst h3; simp at h0
  · exact ⟨g, o, cap, rfl, hc⟩

/-- An operation at a place. -/
structure OpAt (w : World) (g o : Nat) (x : Opn) : Prop where
  c0 : w.cell? ⟨g, o, none⟩ = some (.int .i64 x.kind)
  c1 : w.cell? ⟨g, o + 1, none⟩ = some (strV x.path)
  c2 : w.cell? ⟨g, o + 2, none⟩ = some (strV x.data)
  c3 : w.cell? ⟨g, o + 3, none⟩ = some (.int .i64 x.ver)
  c4 : w.cell? ⟨g, o + 4, none⟩ = some (.int .i64 x.own)
  c5 : w.cell? ⟨g, o + 5, none⟩ = some (.bool x.turns)
theorem OpAt.keep {w w' : World} {g o : Nat} {n : Opn} (h : OpAt w g o n) {S : Nat → Prop} (f : Fp S w w') (hS : ¬ S g) : OpAt w' g o n :=
  ⟨f.cell h.c0 hS, f.cell h.c1 hS, f.cell h.c2 hS, f.cell h.c3 hS, f.cell h.c4 hS, f.cell h.c5 hS⟩
structure Ops (w : World) (v : Value) (l : List Opn) : Prop where
  ex : ∃ ao cap, v = .slice ao l.length cap ∧ (l = [] ∨ ∃ g o, ao = some ⟨g, o, none⟩ ∧ ∀ i (h : i < l.length), OpAt w g (o + i * 6) l[i])
theorem Ops.non {w w' : World} {v : Value} {l : List Opn} (h : Ops w v l) (f : Fp Non w w') : Ops w' v l := by
  obtain ⟨ao, cap, rfl, h3⟩ := h.ex
  refine ⟨ao, cap, rfl, ?_⟩
  rcases h3 with h3 | ⟨g, o, rfl, hc⟩
  · exact .inl h3
  · exact .inr ⟨g, o, rfl, fun i hi => (hc i hi).keep f (fun h => h)⟩
theorem Ops.shape {w : World} {v : Value} {l : List Opn} (h : Ops w v l) : ∃ ao cap, v = .slice ao l.length cap := by
  obtain ⟨ao, cap, rfl, _⟩ := h.ex; exact ⟨ao, cap, rfl⟩
theorem Ops.at {w : World} {v : Value} {l : List Opn} (h : Ops w v l) (h0 : 0 < l.length) : ∃ g o cap, v = .slice (some ⟨g, o, none⟩) l.length cap ∧ ∀ i (h : i < l.length), OpAt w g (o + i * 6) l[i] := by
  obtain ⟨ao, cap, rfl, h3⟩ := h.ex
  rcases h3 with h3 | ⟨g, o, rfl, hc⟩
  · subst h3; simp at h0
  · exact ⟨g, o, cap, rfl, hc⟩

section
variable {H : Type} {enc : TypeId × Value → H} {W : World}

/-- []string, opened. -/
theorem open_strings {v : Value} {d : DataW H} {p : List MemPlace} {base : Nat} (hv : Value.okWide Try.prog W .any base 27 v) (h : DataW.Trod enc Try.prog W 0 (fun _ => true) true 27 v d p) (hsz : ∀ n ∈ d.weights Try.prog 27, n ≤ reachBytes) :
    ∃ l, Tx W v l ∧ True ∧ True := by
  obtain ⟨a0, len, cap, rfl⟩ := okWide_slice Try.underlying27 hv
  obtain ⟨fuel, hf⟩ := h
  have hf : DataW.trod enc Try.prog W 0 (fun _ => true) true fuel 27 [.slice a0 len cap] = some (d, p) := by simpa [Value.cells] using hf
  rcases open_strs Try.underlying27 Try.underlying9 Try.cellsStr' hf with ⟨hcs, hx⟩ | ⟨a, len', cap', m, Sx, hcs, _, hl, hm, hmm, hx, hcell⟩
  · simp only [List.cons.injEq, Value.slice.injEq, and_true] at hcs
    obtain ⟨rfl, rfl, rfl⟩ := hcs
    exact ⟨[], ⟨none, 0, rfl, .inl rfl⟩, trivial, trivial⟩
  · simp only [List.cons.injEq, Value.slice.injEq, and_true] at hcs
    obtain ⟨rfl, rfl, rfl⟩ := hcs
    simp only [if_true] at hmm
    subst hmm
    have hlen : ((List.range len).map fun i => (Sx i).data.toList).length = len := by simp
    by_cases h0 : len = 0
    · subst h0
      exact ⟨[], ⟨some a, m, rfl, .inl rfl⟩, trivial, trivial⟩
    · have hc0 := (hcell 0 (by omega)).1
      have hc0 : W.cell? a = some (.string (Sx 0)) := by simpa [Addr.add] using hc0
      obtain ⟨g, o, rfl⟩ := spot_none hc0
      refine ⟨(List.range len).map fun i => (Sx i).data.toList, ⟨some ⟨g, o, none⟩, m, by rw [hlen], .inr ⟨g, o, rfl, fun j hj => ?_⟩⟩, trivial, trivial⟩
      rw [hlen] at hj
      have := (hcell j (by omega)).1
      rw [Addr.add_lit] at this
      rw [this]
      simp only [List.getElem_map, List.getElem_range]
      rw [← B_of]

end
end Go.Proofs.Ytlmfinpmlilcgaa

/- Clone. -/
namespace Go.Proofs.Ytlmfinpmlilcgaa
set_option maxRecDepth 20000
open Go.RowKit Pm

theorem wpList_app {P : Program} {w : World} {ops : Array Oper} {rest : List Oper} {o : Oper} {a : Act} {Q : Exit → Act → World → Prop} (hgd : o.guard = none) (s x : Operand) (t u : TypeId)
    (ho : o.op = .call { callee := .builtin .append, args := #[s, x], argTypes := #[t, u] }) (v xv : Value) (hs : a.eval s = v) (hx : a.eval x = xv) (R : Value → World → Prop)
    (hr : ∃ v' w', (Builtin.append_ #[t, u] o.type #[v, xv]).run P w = .ok v' w' ∧ R v' w') (h : ∀ v' w', R v' w' → wpList P ops Q rest (a.put o.dst v') w') : wpList P ops Q (o :: rest) a w := by
  refine wpList_plain hgd fun K hK => ?_
  obtain ⟨v', w', hr, h2⟩ := hr
  unfold Oper.wp execOp
  simp only [ho, resolve, invoke, builtin, Sem.run_bind, Sem.run_pure, Result.andThen_ok, List.map_toArray, List.map_cons, List.map_nil, hs, hx, hr]
  exact hK _ _ (h v' w' h2)


theorem nil_slice (w : World) (a : Addr) (n c : Nat) : (binOp .eql TL (.slice (some a) n c) (.slice none 0 0)).run Try.prog w = .ok (.bool false) w :=
  Lib.run_eql_slice_nil w TL TN (some a) n c 0 0 Try.underlying23

/-- A new row. -/
structure NewN (w : World) (n : Nat) (l : List Nd) (v' : Value) (w' : World) : Prop where
  ex : ∃ G cap, v' = .slice (some ⟨G, 0, none⟩) n cap ∧ Nr w' G cap l ∧ w.heap.size ≤ G ∧ Fp Non w w'

end Go.Proofs.Ytlmfinpmlilcgaa

/- slices.Insert, slices.Delete at nodes. -/
namespace Go.Proofs.Ytlmfinpmlilcgaa
set_option maxRecDepth 20000
open Go.RowKit Pm

theorem wpList_copy {P : Program} {w : World} {ops : Array Oper} {rest : List Oper} {o : Oper} {a : Act} {Q : Exit → Act → World → Prop} (hgd : o.guard = none) (s x : Operand) (t u : TypeId)
    (ho : o.op = .call { callee := .builtin .copy, args := #[s, x], argTypes := #[t, u] }) (v xv : Value) (hs : a.eval s = v) (hx : a.eval x = xv) (R : Value → World → Prop)
    (hr : ∃ v' w', (Builtin.copy_ #[t, u] o.type #[v, xv]).run P w = .ok v' w' ∧ R v' w') (h : ∀ v' w', R v' w' → wpList P ops Q rest (a.put o.dst v') w') : wpList P ops Q (o :: rest) a w := by
  refine wpList_plain hgd fun K hK => ?_
  obtain ⟨v', w', hr, h2⟩ := hr
  unfold Oper.wp execOp
  simp only [ho, resolve, invoke, builtin, Sem.run_bind, Sem.run_pure, Result.andThen_ok, List.map_toArray, List.map_cons, List.map_nil, hs, hx, hr]
  exact hK _ _ (h v' w' h2)
theorem wpList_clear {P : Program} {w : World} {ops : Array Oper} {rest : List Oper} {o : Oper} {a : Act} {Q : Exit → Act → World → Prop} (hgd : o.guard = none) (s : Operand) (t : TypeId)
    (ho : o.op = .call { callee := .builtin .clear, args := #[s], argTypes := #[t] }) (v : Value) (hs : a.eval s = v) (R : World → Prop)
    (hr : ∃ v' w', (Builtin.clear_ #[t] o.type #[v]).run P w = .ok v' w' ∧ v' = .tuple #[] ∧ R w') (h : ∀ w', R w' → wpList P ops Q rest (a.put o.dst (.tuple #[])) w') : wpList P ops Q (o :: rest) a w := by
  refine wpList_plain hgd fun K hK => ?_
  obtain ⟨v', w', hr, rfl, h2⟩ := hr
  unfold Oper.wp execOp
  simp only [ho, resolve, invoke, builtin, Sem.run_bind, Sem.run_pure, Result.andThen_ok, List.map_toArray, List.map_cons, List.map_nil, hs, hr]
  exact hK _ _ (h w' h2)
theorem wpList_upd {P : Program} {w : World} {ops : Array Oper} {rest : List Oper} {o : Oper} {a : Act} {Q : Exit → Act → World → Prop} (hgd : o.guard = none) (t : TypeId) (mo x v : Operand) (ho : o.op = .mapUpdate t mo x v) (mv xv vv : Value) (hm : a.eval mo = mv) (hx : a.eval x = xv) (hv : a.eval v = vv) (R : World → Prop)
    (hr : ∃ w', (Instr.mapUpdate t mv xv vv).run P w = .ok () w' ∧ R w') (h : ∀ w', R w' → wpList P ops Q rest (a.put o.dst undef) w') : wpList P ops Q (o :: rest) a w := by
  refine wpList_plain hgd fun K hK => ?_
  obtain ⟨w', hr, h2⟩ := hr
  unfold Oper.wp
  simp [execOp, ho, hm, hx, hv, hr, Result.andThen]
  exact hK _ _ (h w' h2)
theorem wpStill_load {P : Program} {ops : Array Oper} {w : World} {Q : Act → Prop} {a : Act} {o : Oper} {rest : List Oper} (t : TypeId) (x : Operand) (ho : o.op = .load t x) (xv r : Value) (hx : a.eval x = xv) (hw : Region.wanted o (yielded ops a.tmps) = true)
    (hr : (Instr.loadAt t xv).run P w = .ok r w) (h : wpStill P ops w Q rest (a.put o.dst r)) : wpStill P ops w Q (o :: rest) a := by
  unfold wpStill
  rw [if_pos hw]
  unfold Oper.still
  simp [execOp, ho, hx, hr, Result.andThen, Oper.stillUpon]
  exact h
theorem wpStill_run {P : Program} {ops : Array Oper} {w : World} {Q : Act → Prop} {a : Act} {o : Oper} {rest : List Oper} (r : Value) (hw : Region.wanted o (yielded ops a.tmps) = true)
    (hr : (execOp a.eval o).run P w = .ok (.value r) w) (h : wpStill P ops w Q rest (a.put o.dst r)) : wpStill P ops w Q (o :: rest) a := by
  unfold wpStill
  rw [if_pos hw]
  unfold Oper.still
  rw [hr]
  exact ⟨rfl, h⟩
theorem step_copy {P : Program} {ops : Array Oper} {o : Oper} {a : Act} {w : World} {K : Act → World → Prop} {Q : Exit → Act → World → Prop} {E : Prop} (hgd : o.guard = none) (s x : Operand) (t u : TypeId)
    (ho : o.op = .call { callee := .builtin .copy, args := #[s, x], argTypes := #[t, u] }) (v xv : Value) (hs : a.eval s = v) (hx : a.eval x = xv) (R : Value → World → Prop)
    (hr : ∃ v' w', (Builtin.copy_ #[t, u] o.type #[v, xv]).run P w = .ok v' w' ∧ R v' w') (h : ∀ v' w', R v' w' → K (a.put o.dst v') w') :
    if Region.wanted o (yielded ops a.tmps) = true then Oper.wp P o a w K Q else E := by
  have hw : Region.wanted o (yielded ops a.tmps) = true := by simp [Region.wanted, hgd]
  rw [if_pos hw]
  obtain ⟨v', w', hr, h2⟩ := hr
  unfold Oper.wp execOp
  simp only [ho, resolve, invoke, builtin, Sem.run_bind, Sem.run_pure, Result.andThen_ok, List.map_toArray, List.map_cons, List.map_nil, hs, hx, hr]
  exact h v' w' h2

/-- Behind a copy into a row. -/
structure CopR (G cap : Nat) (cur : List Value) (w w' : World) : Prop where
  hp : w'.heap[G]? = some (.cells cur.toArray TN (0, 0))
  len : cur.length = cap * 5
  fp : Fp (fun k => k = G) w w'

theorem copy_at {w : World} {G cap : Nat} {cur : List Value} (hg : w.heap[G]? = some (.cells cur.toArray TN (0, 0))) (hl : cur.length = cap * 5) (ty : TypeId) (o dLen dCap : Nat) (a : Addr) (sLen sCap : Nat) (l : List Nd) (hm : l.length = Nat.min sLen dLen)
    (hsrc : ∀ i (h : i < l.length) j v, (ndC l[i])[j]? = some v → w.cell? (a.add (i * 5 + j)) = some v) (hfit : o + l.length * 5 ≤ cap * 5) :
    ∃ v' w', (Builtin.copy_ #[TL, TL] ty #[.slice (some ⟨G, o, none⟩) dLen dCap, .slice (some a) sLen sCap]).run Try.prog w = .ok v' w' ∧ CopR G cap (cur.take o ++ rows l ++ cur.drop (o + l.length * 5)) w w' := by
  have h := run_copy_nodes w ty G o dLen dCap a sLen sCap cur l.length (rows l) hg hm (rows_len l) (fun j v hv => by
    have hj : j < l.length * 5 := by rw [← rows_len]; exact (List.getElem?_eq_some_iff.1 hv).1
    have hd : j / 5 < l.length := by omega
    have e : j / 5 * 5 + j % 5 = j := by omega
    rw [← e, rows_get l (j / 5) (j % 5) hd (by omega)] at hv
    have := hsrc (j / 5) hd (j % 5) v hv
    rwa [e] at this) (by rw [rows_len, hl]; exact hfit) (rows_one l)
  rw [rows_len] at h
  refine ⟨_, _, h, setRow_heap w G _ _ TN _ hg, ?_, fp_setRow w G _⟩
  simp only [List.length_append, List.length_take, List.length_drop, rows_len, hl]
  omega

theorem Nr.src {w : World} {G cap : Nat} {l : List Nd} (h : Nr w G cap l) (k : Nat) : ∀ i (hi : i < (l.drop k).length) j v, (ndC (l.drop k)[i])[j]? = some v → w.cell? ((⟨G, k * 5, none⟩ : Addr).add (i * 5 + j)) = some v := by
  intro i hi j v hv
  rw [List.length_drop] at hi
  rw [List.getElem_drop] at hv
  have hj : j < 5 := by have := (List.getElem?_eq_some_iff.1 hv).1; simpa [ndC] using this
  rw [Addr.add_lit, show k * 5 + (i * 5 + j) = (k + i) * 5 + j from by omega, h.cell (k + i) j (by omega) hj, hv]

/-- What the two copies leave. -/
theorem ins_cells (l : List Nd) (k : Nat) (hk : k ≤ l.length) (x : Nd) (cur : List Value) (h1 : cur.take (k * 5) = rows (l.take k)) (h2 : (l.length + 1) * 5 ≤ cur.length) :
    ∃ rest, ((cur.take ((k + 1) * 5) ++ rows (l.drop k) ++ cur.drop ((k + 1) * 5 + (l.drop k).length * 5)).take (k * 5) ++ rows [x] ++ (cur.take ((k + 1) * 5) ++ rows (l.drop k) ++ cur.drop ((k + 1) * 5 + (l.drop k).length * 5)).drop (k * 5 + [x].length * 5)) = rows (ins l k x) ++ rest ∧
      (l.length + 1) * 5 + rest.length = cur.length := by
  refine ⟨cur.drop ((k + 1) * 5 + (l.drop k).length * 5), ?_, ?_⟩
  · have e1 : (cur.take ((k + 1) * 5)).length = (k + 1) * 5 := by rw [List.length_take]; omega
    have e2 : (cur.take ((k + 1) * 5) ++ rows (l.drop k) ++ cur.drop ((k + 1) * 5 + (l.drop k).length * 5)).take (k * 5) = rows (l.take k) := by
      rw [List.append_assoc, List.take_append_of_le_length (by rw [e1]; omega), List.take_take, Nat.min_eq_left (by omega), h1]
    have e3 : (cur.take ((k + 1) * 5) ++ rows (l.drop k) ++ cur.drop ((k + 1) * 5 + (l.drop k).length * 5)).drop (k * 5 + [x].length * 5) = rows (l.drop k) ++ cur.drop ((k + 1) * 5 + (l.drop k).length * 5) := by
      rw [List.append_assoc, List.drop_append, List.drop_of_length_le (by rw [e1]; simp; omega), e1, show k * 5 + [x].length * 5 - (k + 1) * 5 = 0 from by simp; omega]
      rfl
    rw [e2, e3, ins, rows_app]
    simp [rows, List.append_assoc]
  · simp only [List.length_drop]; omega

end Go.Proofs.Ytlmfinpmlilcgaa

/- slices.Insert at the end, and without room; whole. -/
namespace Go.Proofs.Ytlmfinpmlilcgaa
set_option maxRecDepth 20000
open Go.RowKit Pm

/-- A row that came of another one, or is new. -/
structure InsR (w : World) (G n : Nat) (l : List Nd) (v' : Value) (w' : World) : Prop where
  ex : ∃ G' cap', v' = .slice (some ⟨G', 0, none⟩) n cap' ∧ Nr w' G' cap' l ∧ (G' = G ∨ w.heap.size ≤ G') ∧ Fp (fun j => j = G) w w'

structure ZerR (w : World) (n gc : Nat) (W1 : World) (v' : Value) (w' : World) : Prop where
  v : v' = .slice (some ⟨w.heap.size, 0, none⟩) (n + 1) gc
  w : w' = W1
theorem zer {w W1 : World} {n gc k G cap : Nat} {ty : TypeId} (h : ∀ ty, (Builtin.append_ #[TL, 3] ty #[.slice (some ⟨G, 0, none⟩) k cap, .int .i64 ((n + 1 - k : Nat) : Int)]).run Try.prog w = .ok (.slice (some ⟨w.heap.size, 0, none⟩) (n + 1) gc) W1) :
    ∃ v' w', (Builtin.append_ #[TL, 3] ty #[.slice (some ⟨G, 0, none⟩) k cap, .int .i64 ((n + 1 - k : Nat) : Int)]).run Try.prog w = .ok v' w' ∧ ZerR w n gc W1 v' w' := ⟨_, _, h ty, rfl, rfl⟩

theorem grow_cells (l : List Nd) (k : Nat) (hk : k ≤ l.length) (x : Nd) (cur : List Value) (h1 : cur.take (k * 5) = rows (l.take k)) (h2 : (l.length + 1) * 5 ≤ cur.length) :
    ∃ rest, ((cur.take (k * 5) ++ rows [x] ++ cur.drop (k * 5 + [x].length * 5)).take ((k + 1) * 5) ++ rows (l.drop k) ++ (cur.take (k * 5) ++ rows [x] ++ cur.drop (k * 5 + [x].length * 5)).drop ((k + 1) * 5 + (l.drop k).length * 5)) = rows (ins l k x) ++ rest ∧
      (l.length + 1) * 5 + rest.length = cur.length := by
  have e0 : (rows (l.take k) ++ rows [x]).length = (k + 1) * 5 := by rw [List.length_append, rows_len, rows_len, List.length_take]; simp; omega
  refine ⟨(cur.take (k * 5) ++ rows [x] ++ cur.drop (k * 5 + [x].length * 5)).drop ((k + 1) * 5 + (l.drop k).length * 5), ?_, ?_⟩
  · rw [h1]
    rw [List.take_append_of_le_length (by rw [e0]; omega), List.take_of_length_le (by rw [e0]; omega)]
    congr 1
    rw [ins, rows_app]
    simp [rows, List.append_assoc]
  · rw [h1, List.length_drop, List.length_append, e0, List.length_drop, List.length_drop]
    simp; omega

end Go.Proofs.Ytlmfinpmlilcgaa

