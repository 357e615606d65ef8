/- A text of this proof. -/
import Derived.Deep.QuietTactic
import Derived.Deep.RegionHeld
import Derived.Deep.RegionLaw
import Derived.Deep.RegionWith
import Derived.Deep.Upon
import Derived.Laws.CopyRow
import Derived.Laws.IdiomCopy
import Derived.Laws.OwnMore
import Derived.Maps.AppendAt
import Derived.Maps.OwnSet
import Derived.OwnWalk
import Derived.StringKeys
import Derived.WalkSpells
import Derived.Test.YtphoglepiegeiaaGreatDoorZCB
set_option linter.unusedSimpArgs false
set_option linter.unusedVariables false
namespace Go.Proofs.YtphoglepiegeiaaGreatDoor
set_option maxRecDepth 20000
open Go.RowKit Pm
structure Fp (S : Nat → Prop) (w w' : World) : Prop where
 os : w'.os = w.os
 tape : w'.tape = w.tape
 output : w'.output = w.output
 size : w.heap.size ≤ w'.heap.size
 block : ∀ k, k < w.heap.size → ¬ S k → w'.heap[k]? = w.heap[k]?
def Non : Nat → Prop := fun _ => False
theorem Fp.refl (S : Nat → Prop) (w : World) : Fp S w w := ⟨rfl, rfl, rfl, Nat.le_refl _, fun _ _ _ => rfl⟩
theorem Fp.trans {S T : Nat → Prop} {a b c : World} (h : Fp S a b) (g : Fp T b c) (hT : ∀ k, T k → S k ∨ a.heap.size ≤ k) : Fp S a c :=
 ⟨g.os.trans h.os, g.tape.trans h.tape, g.output.trans h.output, Nat.le_trans h.size g.size,
  fun k hk hS => (g.block k (Nat.lt_of_lt_of_le hk h.size) (fun ht => (hT k ht).elim hS (fun h1 => absurd hk (by omega)))).trans (h.block k hk hS)⟩
theorem Fp.then {S : Nat → Prop} {a b c : World} (h : Fp S a b) (g : Fp Non b c) : Fp S a c := h.trans g (fun _ h => h.elim)
theorem Fp.same {S : Nat → Prop} {a b c : World} (h : Fp S a b) (g : Fp S b c) : Fp S a c := h.trans g (fun _ h => .inl h)
theorem Fp.mono {S T : Nat → Prop} {a b : World} (h : Fp S a b) (hS : ∀ k, S k → T k) : Fp T a b := ⟨h.os, h.tape, h.output, h.size, fun k hk ht => h.block k hk (fun hs => ht (hS k hs))⟩
theorem Fp.any {S : Nat → Prop} {a b : World} (h : Fp Non a b) : Fp S a b := h.mono (fun _ h => h.elim)
theorem Fp.drewN {S : Nat → Prop} {a b : World} (h : Fp S a b) (n : Nat) : Fp S a (b.drewN n) := ⟨h.os, h.tape, h.output, h.size, h.block⟩
theorem Fp.drew {S : Nat → Prop} {a b : World} (h : Fp S a b) : Fp S a b.drew := ⟨h.os, h.tape, h.output, h.size, h.block⟩
theorem Fp.below {S : Nat → Prop} {a b : World} (h : Fp S a b) {lo : Nat} (hS : ∀ k, S k → lo ≤ k) (hl : lo ≤ a.heap.size) : Below lo a b :=
 ⟨h.os, h.tape, h.output, h.size, fun k hk => h.block k (by omega) (fun hs => by have := hS k hs; omega)⟩
theorem Fp.of_below {a b : World} (h : Below a.heap.size a b) : Fp Non a b := ⟨h.os, h.tape, h.output, h.size, fun k hk _ => h.block k hk⟩
theorem Fp.grown {S : Nat → Prop} {a b c : World} {row : Option Nat} (h : Fp S a b) (g : b.grownBy c row) (hr : ∀ k, row = some k → S k ∨ a.heap.size ≤ k) : Fp S a c :=
 ⟨g.os.trans h.os, g.tape.trans h.tape, g.output.trans h.output, Nat.le_trans h.size g.size,
  fun k hk hS => (g.block k (Nat.lt_of_lt_of_le hk h.size) (fun ht => (hr k ht.symm).elim hS (fun h1 => absurd hk (by omega)))).trans (h.block k hk hS)⟩
theorem Fp.alloc {S : Nat → Prop} {a b : World} (h : Fp S a b) (o : Obj) : Fp S a (b.alloc o) := h.grown (World.grownBy_alloc b o none) (fun _ h => by cases h)
theorem Fp.setCell {S : Nat → Prop} {a b : World} (h : Fp S a b) {p : Addr} (hp : S p.block ∨ a.heap.size ≤ p.block) (v : Value) : Fp S a (b.setCell p v) := by
 refine ⟨h.os, h.tape, h.output, by simpa [World.setCell] using h.size, fun k hk hS => ?_⟩
 have hne : k ≠ p.block := by rintro rfl; exact hp.elim hS (fun h1 => absurd hk (by omega))
 have : (b.setCell p v).heap[k]? = b.heap[k]? := by
  unfold World.setCell
  simp [Array.getElem?_modify, Ne.symm hne]
 exact this.trans (h.block k hk hS)
theorem Fp.heap {S : Nat → Prop} {a b : World} (h : Fp S a b) {k : Nat} {o : Obj} (hk : a.heap[k]? = some o) (hS : ¬ S k) : b.heap[k]? = some o := by
 rw [h.block k (Array.getElem?_eq_some_iff.1 hk).1 hS]; exact hk
theorem Fp.cell {S : Nat → Prop} {a b : World} (h : Fp S a b) {p : Addr} {v : Value} (hc : a.cell? p = some v) (hS : ¬ S p.block) : b.cell? p = some v :=
 (World.cell?_of_block (h.block p.block (World.block_lt_of_cell? a p hc) hS)).trans hc
theorem Fp.owns {S : Nat → Prop} {a b : World} (h : Fp S a b) {lo : Nat} {e : TypeId} {size : Nat} {v : Value} {n : Nat} {xs : List Value} (ho : a.ownsRow lo e size v n xs) (hS : ∀ k, v.ownBlock = some k → ¬ S k) : b.ownsRow lo e size v n xs := by
 refine ⟨ho.1, ?_⟩
 rcases ho.2 with hn | ⟨g, cap, cur, rfl, hb, hgg, rest⟩
 ·exact .inl hn
 exact .inr ⟨g, cap, cur, rfl, hb, h.heap hgg (hS g rfl), rest⟩
theorem Fp.gr {w w' : World} (h : Fp Non w w') : Gr w w' := h.below (fun _ h => h.elim) (Nat.le_refl _)
theorem Gr.fp {w w' : World} (h : Gr w w') : Fp Non w w' := Fp.of_below h
theorem Tab.non {w w' : World} (h : Tab w) (g : Fp Non w w') : Tab w' := h.grown g.gr
abbrev TN : TypeId := 79
abbrev TL : TypeId := 22
def ndC (n : Nd) : List Value := [strV n.path, strV n.data, .int .i64 n.ver, .int .i64 n.turn, .int .i64 n.own]
def ndV (n : Nd) : Value := .agg #[strV n.path, strV n.data, .int .i64 n.ver, .int .i64 n.turn, .int .i64 n.own]
def rows (l : List Nd) : List Value := l.flatMap ndC
theorem ndC_len (n : Nd) : (ndC n).length = 5 := rfl
theorem rows_cons (n : Nd) (l : List Nd) : rows (n :: l) = ndC n ++ rows l := by simp [rows]
theorem rows_app (a b : List Nd) : rows (a ++ b) = rows a ++ rows b := by simp [rows]
theorem rows_len (l : List Nd) : (rows l).length = l.length * 5 := by
 induction l with
 | nil => rfl
 | cons n l ih => rw [rows_cons, List.length_append, ndC_len, ih, List.length_cons]; omega
theorem rows_get (l : List Nd) (i j : Nat) (hi : i < l.length) (hj : j < 5) : (rows l)[i * 5 + j]? = (ndC l[i])[j]? := by
 induction l generalizing i with
 | nil => simp at hi
 | cons n l ih =>
  rw [rows_cons]
  cases i with
  | zero => rw [List.getElem?_append_left (by rw [ndC_len]; omega)]; simp
  | succ i => ?_
  rw [List.getElem?_append_right (by rw [ndC_len]; omega), ndC_len, show (i + 1) * 5 + j - 5 = i * 5 + j from by omega, ih i (by simpa using hi)]
  simp
theorem rows_one (l : List Nd) : ∀ u ∈ rows l, u.oneCell' = true := by
 intro u hu
 unfold rows at hu
 rw [List.mem_flatMap] at hu
 obtain ⟨n, _, hu⟩ := hu
 simp only [ndC, List.mem_cons, List.not_mem_nil, or_false] at hu
 rcases hu with rfl | rfl | rfl | rfl | rfl <;> rfl
theorem rows_take (l : List Nd) (k : Nat) : (rows l).take (k * 5) = rows (l.take k) := by
 induction l generalizing k with
 | nil => simp [rows]
 | cons n l ih =>
  cases k with
  | zero => simp [rows]
  | succ k => rw [List.take_succ_cons, rows_cons, rows_cons, ← ih, List.take_append, ndC_len, List.take_of_length_le (by rw [ndC_len]; omega), show (k + 1) * 5 - 5 = k * 5 from by omega]
structure NdAt (w : World) (g o : Nat) (n : Nd) : Prop where
 c0 : w.cell? ⟨g, o, none⟩ = some (strV n.path)
 c1 : w.cell? ⟨g, o + 1, none⟩ = some (strV n.data)
 c2 : w.cell? ⟨g, o + 2, none⟩ = some (.int .i64 n.ver)
 c3 : w.cell? ⟨g, o + 3, none⟩ = some (.int .i64 n.turn)
 c4 : w.cell? ⟨g, o + 4, none⟩ = some (.int .i64 n.own)
theorem NdAt.keep {w w' : World} {g o : Nat} {n : Nd} (h : NdAt w g o n) {S : Nat → Prop} (f : Fp S w w') (hS : ¬ S g) : NdAt w' g o n :=
 ⟨f.cell h.c0 hS, f.cell h.c1 hS, f.cell h.c2 hS, f.cell h.c3 hS, f.cell h.c4 hS⟩
theorem NdAt.get {w : World} {g o : Nat} {n : Nd} (h : NdAt w g o n) : ∀ j v, (ndC n)[j]? = some v → w.cell? ((⟨g, o, none⟩ : Addr).add j) = some v := by
 intro j v hv
 rw [Addr.add_lit]
 match j, hv with
 | 0, hv => rw [← Option.some.inj hv]; exact h.c0
 | 1, hv => rw [← Option.some.inj hv]; exact h.c1
 | 2, hv => rw [← Option.some.inj hv]; exact h.c2
 | 3, hv => rw [← Option.some.inj hv]; exact h.c3
 | 4, hv => rw [← Option.some.inj hv]; exact h.c4
 | j + 5, hv => simp [ndC] at hv
structure Ns (w : World) (v : Value) (l : List Nd) : Prop where
 ex : ∃ ao cap, v = .slice ao l.length cap ∧ l.length ≤ cap ∧ cap ≤ maxLen ∧ (l = [] ∨ ∃ g o, ao = some ⟨g, o, none⟩ ∧ g < w.heap.size ∧ ∀ i (h : i < l.length), NdAt w g (o + i * 5) l[i])
theorem Ns.keep {w w' : World} {v : Value} {l : List Nd} (h : Ns w v l) {S : Nat → Prop} (f : Fp S w w') (hS : ∀ k, v.ownBlock = some k → ¬ S k) : Ns w' v l := by
 obtain ⟨ao, cap, rfl, h1, h2, h3⟩ := h.ex
 refine ⟨ao, cap, rfl, h1, h2, ?_⟩
 rcases h3 with h3 | ⟨g, o, rfl, hg, hc⟩
 ·exact .inl h3
 exact .inr ⟨g, o, rfl, Nat.lt_of_lt_of_le hg f.size, fun i hi => (hc i hi).keep f (hS g rfl)⟩
theorem Ns.non {w w' : World} {v : Value} {l : List Nd} (h : Ns w v l) (f : Fp Non w w') : Ns w' v l := h.keep f (fun _ _ h => h)
theorem Ns.nil (w : World) : Ns w (.slice none 0 0) [] := ⟨none, 0, rfl, Nat.le_refl _, Nat.zero_le _, .inl rfl⟩
theorem Ns.shape {w : World} {v : Value} {l : List Nd} (h : Ns w v l) : ∃ ao cap, v = .slice ao l.length cap := by
 obtain ⟨ao, cap, rfl, _⟩ := h.ex; exact ⟨ao, cap, rfl⟩
theorem Ns.at {w : World} {v : Value} {l : List Nd} (h : Ns w v l) (h0 : 0 < l.length) : ∃ g o cap, v = .slice (some ⟨g, o, none⟩) l.length cap ∧ l.length ≤ cap ∧ cap ≤ maxLen ∧ g < w.heap.size ∧ ∀ i (h : i < l.length), NdAt w g (o + i * 5) l[i] := by
 obtain ⟨ao, cap, rfl, h1, h2, h3⟩ := h.ex
 rcases h3 with h3 | ⟨g, o, rfl, hg, hc⟩
 ·subst h3; simp at h0
 exact ⟨g, o, cap, rfl, h1, h2, hg, hc⟩
structure Nr (w : World) (g cap : Nat) (l : List Nd) : Prop where
 ex : ∃ rest, w.heap[g]? = some (.cells (rows l ++ rest).toArray TN (0, 0)) ∧ l.length * 5 + rest.length = cap * 5
 room : l.length ≤ cap
 most : cap ≤ maxLen
theorem Nr.lt {w : World} {g cap : Nat} {l : List Nd} (h : Nr w g cap l) : g < w.heap.size := by
 obtain ⟨r, h, _⟩ := h.ex; exact (Array.getElem?_eq_some_iff.1 h).1
theorem Nr.keep {w w' : World} {g cap : Nat} {l : List Nd} (h : Nr w g cap l) {S : Nat → Prop} (f : Fp S w w') (hS : ¬ S g) : Nr w' g cap l := by
 obtain ⟨r, h1, h2⟩ := h.ex; exact ⟨⟨r, f.heap h1 hS, h2⟩, h.room, h.most⟩
theorem Nr.cell {w : World} {g cap : Nat} {l : List Nd} (h : Nr w g cap l) (i j : Nat) (hi : i < l.length) (hj : j < 5) : w.cell? ⟨g, i * 5 + j, none⟩ = (ndC l[i])[j]? := by
 obtain ⟨r, h1, _⟩ := h.ex
 rw [cell_of_row w g _ _ TN (0, 0) h1]
 simp only [List.getElem?_toArray]
 rw [List.getElem?_append_left (by rw [rows_len]; omega), rows_get l i j hi hj]
theorem Nr.nd {w : World} {g cap : Nat} {l : List Nd} (h : Nr w g cap l) (i : Nat) (hi : i < l.length) : NdAt w g (0 + i * 5) l[i] := by
 rw [Nat.zero_add]
 exact ⟨h.cell i 0 hi (by omega), h.cell i 1 hi (by omega), h.cell i 2 hi (by omega), h.cell i 3 hi (by omega), h.cell i 4 hi (by omega)⟩
theorem Nr.ns {w : World} {g cap : Nat} {l : List Nd} (h : Nr w g cap l) : Ns w (.slice (some ⟨g, 0, none⟩) l.length cap) l :=
 ⟨_, cap, rfl, h.room, h.most, .inr ⟨g, 0, rfl, h.lt, h.nd⟩⟩
theorem Nr.frozen {w : World} {g cap : Nat} {l : List Nd} (h : Nr w g cap l) (o : Nat) : w.frozen? ⟨g, o, none⟩ = false := by
 obtain ⟨r, h1, _⟩ := h.ex; simp [World.frozen?, h1]
theorem Nr.owns {w : World} {g cap : Nat} {l : List Nd} (h : Nr w g cap l) {lo : Nat} (hlo : lo ≤ g) : w.ownsRow lo TN 5 (.slice (some ⟨g, 0, none⟩) l.length cap) l.length (rows l) := by
 obtain ⟨r, h1, h2⟩ := h.ex
 refine ⟨rows_len l, .inr ⟨g, cap, _, rfl, hlo, h1, h.room, h.most, by simp [rows_len]; omega, ?_⟩⟩
 simp only
 rw [← rows_len l]; exact List.take_left
theorem Nr.of_owns {w : World} {lo g cap n : Nat} {l : List Nd} (h : w.ownsRow lo TN 5 (.slice (some ⟨g, 0, none⟩) n cap) n (rows l)) (hn : n = l.length) : Nr w g cap l ∧ lo ≤ g := by
 subst hn
 rcases h.2 with ⟨h0, _⟩ | ⟨g', cap', cur, e, hb, hg, h1, h2, h3, h4⟩
 ·cases h0
 injection e with e1 _ e3
 injection e1 with e1
 injection e1 with e1
 subst e1 e3
 refine ⟨⟨⟨cur.toList.drop (l.length * 5), ?_, ?_⟩, h1, h2⟩, hb⟩
 ·rw [← h4, List.take_append_drop]; exact hg
 have e : cur.toList.length = cap * 5 := by rw [Array.length_toList, h3]
 rw [List.length_drop, e]; omega
theorem fp_setRow (w : World) (g : Nat) (cs : Array Value) : Fp (fun k => k = g) w (w.setRow g cs) :=
 ⟨rfl, rfl, rfl, by simp [World.setRow], fun k _ hne => setRow_other w g k cs hne⟩
theorem Tryz.infoN : (Tryz.prog.info? TN).map (fun i => (i.zero, i.size, i.bytes)) = some (some (.agg #[.string ⟨#[]⟩, .string ⟨#[]⟩, .int .i64 0, .int .i64 0, .int .i64 0]), 5, 56) := by kernel_rfl
theorem szN (w : World) : (sizeOf TN).run Tryz.prog w = .ok 5 w := by
 obtain ⟨i, hi, _, hs, _⟩ := info_parts Tryz.infoN
 simp [sizeOf, typeInfo, hi, hs]
theorem run_copy_nodes (w : World) (ty : TypeId) (g o dLen dCap : Nat) (a : Addr) (sLen sCap : Nat) (cur : List Value) (m : Nat) (cs : List Value) (hg : w.heap[g]? = some (.cells cur.toArray TN (0, 0))) (hm : m = Nat.min sLen dLen) (hn : cs.length = m * 5)
  (hsrc : ∀ j v, cs[j]? = some v → w.cell? (a.add j) = some v) (hfit : o + cs.length ≤ cur.length) (h1 : ∀ v ∈ cs, v.oneCell' = true) :
  (Builtin.copy_ #[TL, TL] ty #[.slice (some ⟨g, o, none⟩) dLen dCap, .slice (some a) sLen sCap]).run Tryz.prog w = .ok (goInt m) (w.setRow g (cur.take o ++ cs ++ cur.drop (o + cs.length)).toArray) := by
 have hl := run_loadCells_list (P := Tryz.prog) w a cs hsrc
 have hst := run_storeCells_at Tryz.prog g o TN cs 0 cur.toArray w hg (by simpa using hfit) h1
 rw [hn] at hl
 simp [Builtin.copy_, run_underlying Tryz.underlying22, Builtin.lenOf, Builtin.firstCells, ← hm, hl, hst]
theorem run_clear_nodes (w : World) (ty : TypeId) (g o n c : Nat) (cur : List Value) (hg : w.heap[g]? = some (.cells cur.toArray TN (0, 0))) (hfit : o + n * 5 ≤ cur.length) (h0 : 0 < n) :
  ∃ zs : List Value, zs.length = n * 5 ∧ (Builtin.clear_ #[TL] ty #[.slice (some ⟨g, o, none⟩) n c]).run Tryz.prog w = .ok (.tuple #[]) (w.setRow g (cur.take o ++ zs ++ cur.drop (o + n * 5)).toArray) := by
 refine ⟨(Builtin.zeroCells #[.string ⟨#[]⟩, .string ⟨#[]⟩, .int .i64 0, .int .i64 0, .int .i64 0] n).toList, by simp [size_zeroCells], ?_⟩
 have hst := run_storeCells_at Tryz.prog g o TN (Builtin.zeroCells #[.string ⟨#[]⟩, .string ⟨#[]⟩, .int .i64 0, .int .i64 0, .int .i64 0] n).toList 0 cur.toArray w hg (by simpa [size_zeroCells] using hfit) (by
  intro v hv
  simp only [Builtin.zeroCells, Array.toList_map, List.mem_map, Array.toList_range] at hv
  obtain ⟨i, _, rfl⟩ := hv
  have : i % 5 < 5 := Nat.mod_lt _ (by omega)
  generalize i % 5 = k at this
  match k, this with
  | 0, _ => rfl
  | 1, _ => rfl
  | 2, _ => rfl
  | 3, _ => rfl
  | 4, _ => rfl)
 obtain ⟨m, rfl⟩ : ∃ m, n = m + 1 := ⟨n - 1, by omega⟩
 simp [size_zeroCells] at hst
 simp [Builtin.clear_, run_underlying Tryz.underlying22, Value.cells, hst]
theorem app_nodes (w : World) (lo : Nat) (v : Value) (l m : List Nd) (ty : TypeId) (g o n c : Nat) (hv : w.ownsRow lo TN 5 v l.length (rows l)) (hn : n = m.length) (hx : ∀ i (h : i < m.length), NdAt w g (o + i * 5) m[i]) (h6 : l.length + m.length ≤ 100000) (hlo : lo ≤ w.heap.size) (h0 : 0 < l.length + m.length) :
  ∃ G cap w', (Builtin.append_ #[TL, TL] ty #[v, .slice (some ⟨g, o, none⟩) n c]).run Tryz.prog w = .ok (.slice (some ⟨G, 0, none⟩) (l.length + m.length) cap) w' ∧ Nr w' G cap (l ++ m) ∧ lo ≤ G ∧ w.grownBy w' v.ownBlock ∧ (v.ownBlock = some G ∨ w.heap.size ≤ G) := by
 obtain ⟨i, hi, hz, hsz, hby⟩ := info_parts Tryz.infoN
 subst hn
 obtain ⟨v', w', hr, h4, h5, h7, h8⟩ := run_append_own_at (P := Tryz.prog) w lo TL ty TN i _ 5 56 Tryz.underlying22 hi hz hsz hby rfl (by decide) v l.length (rows l) hv ⟨g, o, none⟩ m.length c (rows m) (rows_len m)
  (fun j u hu => by
   have hj : j < m.length * 5 := by rw [← rows_len]; exact (List.getElem?_eq_some_iff.1 hu).1
   have hd : j / 5 < m.length := by omega
   have e : j / 5 * 5 + j % 5 = j := by omega
   rw [← e, rows_get m (j / 5) (j % 5) hd (by omega)] at hu
   have := (hx (j / 5) hd).get (j % 5) u hu
   rw [Addr.add_lit] at this ⊢
   rwa [show o + j / 5 * 5 + j % 5 = o + j from by omega] at this)
  (rows_one m) (by unfold maxLen; omega) (by omega) hlo
 have hne : v' ≠ .slice none 0 0 := fun e => by
  obtain ⟨e1, e2⟩ := h7.1 e
  subst e1
  rcases hv.2 with ⟨_, h⟩ | ⟨_, _, _, h, _⟩
  ·omega
  cases h
 rcases h4.2 with ⟨h9, _⟩ | ⟨G, cap, cur, rfl, hb, hg, r1, r2, r3, r4⟩
 ·exact absurd h9 hne
 rw [← rows_app] at h4
 obtain ⟨h10, h11⟩ := Nr.of_owns h4 (by rw [List.length_append])
 refine ⟨G, cap, w', hr, h10, h11, h5, ?_⟩
 rcases h8 with h8 | h8
 ·exact .inl h8.symm
 right; simp [Value.ownBlock] at h8; omega
open Go.RowKit Pm Go.Maps
def badV (e : Int) : Value := .agg #[.int .i64 e, .string ⟨#[]⟩, .string ⟨#[]⟩, .int .i64 0, .slice none 0 0]
set_option maxHeartbeats 400000 in
theorem refused_c (x : Int) (w : World) :
  Calls Tryz.prog 85 #[.int .i64 x] w fun e w' => e = .returned (badV x) ∧ Fp Non w w' := by
 go_enter Tryz.func85, Tryz.ntmps85
 go_wp2
 exact bodyPost_ret (v := badV x) (by simp [results, Tryz.results85, go_sem, badV]) rfl ⟨rfl, (Fp.refl Non w).alloc _⟩
theorem within_c (n a b : Int) (w : World) :
  Calls Tryz.prog 80 #[.int .i64 n, .int .i64 a, .int .i64 b] w fun e w' => e = .returned (.bool (decide (a ≤ n ∧ n ≤ b))) ∧ w = w' := by
 go_enter Tryz.func80, Tryz.ntmps80
 go_wp2
 all_goals (go_ret; refine ⟨ret_bool ?_, rfl⟩; simp; omega)
theorem within_d (n a b : Int) (w : World) (r : Bool) (hr : decide (a ≤ n ∧ n ≤ b) = r) :
  Calls Tryz.prog 80 #[.int .i64 n, .int .i64 a, .int .i64 b] w fun e w' => e = .returned (.bool r) ∧ w = w' := by
 rw [← hr]; exact within_c n a b w
set_option maxHeartbeats 1000000 in
theorem fits_c (n : Nd) (w : World) :
  Calls Tryz.prog 108 #[ndV n] w fun e w' => e = .returned (.bool (fitsB n)) ∧ Fp Non w w' := by
 obtain ⟨p, d, v, t, o⟩ := n
 unfold ndV strV
 have hf : ∀ o, Fp Non w (w.alloc o) := fun o => (Fp.refl Non w).alloc o
 obtain ⟨r, hr⟩ : ∃ r, fitsB ⟨p, d, v, t, o⟩ = r := ⟨_, rfl⟩
 rw [hr]
 obtain ⟨b1, h1⟩ : ∃ r, decide ((0 : Int) ≤ v ∧ v ≤ 281474976710656) = r := ⟨_, rfl⟩
 obtain ⟨b2, h2⟩ : ∃ r, decide ((0 : Int) ≤ t ∧ t ≤ 10000) = r := ⟨_, rfl⟩
 obtain ⟨b3, h3⟩ : ∃ r, decide ((0 : Int) ≤ o ∧ o ≤ 1099511627776) = r := ⟨_, rfl⟩
 obtain ⟨k, hk⟩ : ∃ k, k = d.length := ⟨_, rfl⟩
 have W1 := Lib.hid (fun w => within_d v 0 281474976710656 w b1 h1)
 have W2 := Lib.hid (fun w => within_d t 0 10000 w b2 h2)
 have W3 := Lib.hid (fun w => within_d o 0 1099511627776 w b3 h3)
 have key : r = (b1 && b2 && b3 && decide (k ≤ 256) && (decide (o = 0) || decide (t = 0))) := by
  rw [← hr, ← h1, ← h2, ← h3, hk, Bool.eq_iff_iff, fits_iff]
  simp only [Bool.and_eq_true, Bool.or_eq_true, decide_eq_true_eq]
  omega
 have HK := Lib.hid key
 clear hr h1 h2 h3 key
 by_cases hd : k ≤ 256
 ·have q1 : ((256 : Int) < (d.length : Int)) = False := eq_false (by omega)
  by_cases ho : o = 0
  ·have q2 : (o != 0) = false := by simp [ho]
   have q3 : (o = 0) = True := eq_true ho
   have Q := Lib.hid (And.intro hd ho)
   clear hd hk ho
   go_enter Tryz.func108, Tryz.ntmps108
   cases b1 <;> cases b2 <;> cases b3
   all_goals
    go_wp2_with (first
     | (go_at_call_of 80 v; refine (W1.out _).mono ?_; rintro e w1 ⟨rfl, rfl⟩)
     | (go_at_call_of 80 t; refine (W2.out _).mono ?_; rintro e w1 ⟨rfl, rfl⟩)
     | (go_at_call_of 80 o; refine (W3.out _).mono ?_; rintro e w1 ⟨rfl, rfl⟩))
    go_ret
    exact ⟨ret_bool (by rw [HK.out]; simp [Q.out]), hf _⟩
  have q2 : (o != 0) = true := by simp [ho]
  have q3 : (o = 0) = False := eq_false ho
  by_cases ht : t = 0
  ·have q4 : (t != 0) = false := by simp [ht]
   have q5 : (t = 0) = True := eq_true ht
   have Q := Lib.hid (And.intro hd ht)
   clear hd hk ho ht
   go_enter Tryz.func108, Tryz.ntmps108
   cases b1 <;> cases b2 <;> cases b3
   all_goals
    go_wp2_with (first
     | (go_at_call_of 80 v; refine (W1.out _).mono ?_; rintro e w1 ⟨rfl, rfl⟩)
     | (go_at_call_of 80 t; refine (W2.out _).mono ?_; rintro e w1 ⟨rfl, rfl⟩)
     | (go_at_call_of 80 o; refine (W3.out _).mono ?_; rintro e w1 ⟨rfl, rfl⟩))
    go_ret
    exact ⟨ret_bool (by rw [HK.out]; simp [Q.out]), hf _⟩
  have q4 : (t != 0) = true := by simp [ht]
  have q5 : (t = 0) = False := eq_false ht
  have Q := Lib.hid (And.intro ho ht)
  clear hd hk ho ht
  go_enter Tryz.func108, Tryz.ntmps108
  go_wp2
  go_ret
  exact ⟨ret_bool (by rw [HK.out]; simp [Q.out]), hf _⟩
 have q1 : ((256 : Int) < (d.length : Int)) = True := eq_true (by omega)
 have Q := Lib.hid hd
 clear hd hk
 go_enter Tryz.func108, Tryz.ntmps108
 go_wp2
 go_ret
 exact ⟨ret_bool (by rw [HK.out]; simp [Q.out]), hf _⟩
set_option maxHeartbeats 400000 in
theorem fields_c (w : World) :
  Calls Tryz.prog 79 #[] w fun e w' => e = .returned (.agg #[.int .i64 0, .int .i64 43, .int .i64 5, .int .i64 6, .int .i64 4, .int .i64 0, .int .i64 0, .int .i64 24]) ∧ Fp Non w w' := by
 go_enter Tryz.func79, Tryz.ntmps79
 go_wp2
 exact bodyPost_ret (v := .agg #[.int .i64 0, .int .i64 43, .int .i64 5, .int .i64 6, .int .i64 4, .int .i64 0, .int .i64 0, .int .i64 24]) (by simp [results, Tryz.results79, go_sem]) rfl ⟨rfl, (Fp.refl Non w).alloc _⟩
abbrev TO : TypeId := 130
structure OmAt (w : World) (m : Nat) (l : List Nd) (D : DataW Unit) : Prop where
 own : w.ownsMap Tryz.prog 9 (plainElem Tryz.prog 2) m l.length D
 has : ∀ p : Bs, Maps.has D (.string p) = (find l p).isSome
 at' : ∀ p x, find l p = some x → ∀ zd, D.atKey (.string p) zd = .lit (.int .i64 x.own)
def Om (w : World) (m : Nat) (l : List Nd) : Prop := ∃ D, OmAt w m l D
theorem lawS : Keyed Tryz.prog 9 := string_keyed Tryz.underlying9
theorem Om.keep {w w' : World} {m : Nat} {l : List Nd} (h : Om w m l) {S : Nat → Prop} (f : Fp S w w') (hS : ¬ S m) : Om w' m l := by
 obtain ⟨D, ⟨es, clock, hb, F, hs, e⟩, h2, h3⟩ := h
 exact ⟨D, ⟨es, clock, f.heap hb hS, F, hs, e⟩, h2, h3⟩
theorem Om.made (w : World) : Om (w.alloc (.map #[] 0)) w.heap.size [] :=
 ⟨.map [], World.ownsMap_made w _ _ _, fun p => by simp [Maps.has, find], fun p x h => by cases h⟩
theorem keyS (p : Bs) (h : p.length ≤ maxLen) : keyOf Tryz.prog 9 (.string (B p)) = some (.string p) := by
 have := WideMaps.keyOf_string_mk (P := Tryz.prog) Tryz.underlying9 (s := B p) (by rw [B_size]; exact h)
 exact this
theorem make_owners (w : World) (k : Int) : (Instr.makeMap TO (some (.int .i64 k))).run Tryz.prog w = .ok (.map (some w.heap.size)) (w.alloc (.map #[] 0)) := by
 simp [Instr.makeMap, run_underlying Tryz.underlying130, asInt, asIntOf, Result.andThen]
theorem zv64 (w : World) : (zeroValue 2).run Tryz.prog w = .ok (.int .i64 0) w := by kernel_rfl
theorem OmAt.look {w : World} {m : Nat} {l : List Nd} {D : DataW Unit} (h : OmAt w m l D) (p : Bs) (hp : p.length ≤ maxLen) :
  ∃ c : Int, (∀ x, find l p = some x → c = x.own) ∧ (Instr.lookup TO (.map (some m)) (.string (B p)) true).run Tryz.prog w = .ok (.tuple #[.int .i64 c, .bool (find l p).isSome]) w := by
 obtain ⟨v, ps, hr, hv⟩ := h.own.look_ok lawS Tryz.underlying130 (zv64 w) (plainElem_int Tryz.underlying2 (by decide)) (keyS p hp)
 obtain ⟨c, rfl, hc, _⟩ := plainElem_int_inv Tryz.underlying2 hv
 refine ⟨c, fun x hx => ?_, by rw [hr, h.has]⟩
 have := congrArg Prod.fst hc
 rw [h.at' p x hx] at this
 simp at this
 exact this.symm
structure OuR (m : Nat) (l : List Nd) (w w' : World) : Prop where
 om : Om w' m l
 fp : Fp (fun k => k = m) w w'
theorem find_snoc (l : List Nd) (x : Nd) (p : Bs) (h : find l x.path = none) : find (l ++ [x]) p = if p = x.path then some x else find l p := by
 unfold find at h ⊢
 rw [List.find?_append]
 split
 ·rename_i e; subst e; rw [h]; simp
 rename_i e
 cases hf : l.find? (fun n => n.path == p) with
 | some y => rfl
 | none => simp [Ne.symm e]
theorem OmAt.upd {w : World} {m : Nat} {l : List Nd} {D : DataW Unit} (h : OmAt w m l D) (x : Nd) (hx : find l x.path = none) (hp : x.path.length ≤ maxLen) (ho : 0 ≤ x.own ∧ x.own ≤ 1099511627776) (hl : l.length < maxLen) :
  ∃ w', (Instr.mapUpdate TO (.map (some m)) (.string (B x.path)) (.int .i64 x.own)).run Tryz.prog w = .ok () w' ∧ OuR m (l ++ [x]) w w' := by
 have hwf : (Lit.int .i64 x.own).wf = true := WalkArith.wf_i64 (by omega)
 obtain ⟨w', hr, h2, h3⟩ := h.own.store lawS Tryz.underlying130 hl (keyS x.path hp) (plainElem_int Tryz.underlying2 hwf)
 have hm : IsMap D := h.own.isMap
 have hk : WideAt.IsKeyLit (.string x.path) := trivial
 refine ⟨w', hr, ⟨D.put (.string x.path) (.lit (.int .i64 x.own)), by rw [List.length_append]; exact h2, fun p => ?_, fun p y hy zd => ?_⟩, (Fp.refl _ w).grown h3.grown (fun k hk => .inl (by injection hk with hk; exact hk.symm))⟩
 ·rw [find_snoc l x p hx]
  by_cases e : p = x.path
  ·subst e; rw [has_put_same hm hk, if_pos rfl]; rfl
  rw [has_put_other (fun e2 => e (by simpa using e2)), if_neg e, h.has]
 rw [find_snoc l x p hx] at hy
 by_cases e : p = x.path
 ·subst e
  rw [if_pos rfl] at hy; obtain rfl := Option.some.inj hy
  rw [atKey_put_same hm hk]
 rw [if_neg e] at hy
 rw [atKey_put_other (fun e2 => e (by simpa using e2)), h.at' p y hy]
theorem wpList_lookup_run {P : Program} {w : World} {ops : Array Oper} {rest : List Oper} {o : Oper} {a : Act} {Q : Exit → Act → World → Prop} (hgd : o.guard = none) (t : TypeId) (mo x : Operand) (c : Bool) (ho : o.op = .lookup t mo x c) (mv xv r : Value) (hm : a.eval mo = mv) (hx : a.eval x = xv)
  (hr : (Instr.lookup t mv xv c).run P w = .ok r w) (h : wpList P ops Q rest (a.put o.dst r) w) : wpList P ops Q (o :: rest) a w := by
 refine wpList_plain hgd fun K hK => ?_
 unfold Oper.wp
 simp [execOp, ho, hm, hx, hr, Result.andThen]
 exact hK _ _ h
set_option maxHeartbeats 1000000 in
theorem mayLie_c (n : Nd) (m : Nat) (l : List Nd) (w : World) (hp : n.path.length ≤ 1000000) (hm : Om w m l) :
  Calls Tryz.prog 109 #[ndV n, .map (some m)] w fun e w' => e = .returned (.bool (lies l n)) ∧ Fp Non w w' := by
 obtain ⟨p, d, v, t, o⟩ := n
 unfold ndV strV
 have hpar := fun w => Parent_g p w (sz_of hp (by omega))
 cases hu : parent p with
 | none =>
  have hl : lies l ⟨p, d, v, t, o⟩ = false := by unfold lies; rw [hu]
  rw [hl]
  rw [hu] at hpar
  have HP := Lib.hid hpar
  clear hpar hl hu hm
  go_enter Tryz.func109, Tryz.ntmps109
  go_wp2_with fail
  refine (HP.out _).mono ?_
  rintro e w1 ⟨rfl, g1⟩
  have F := Lib.hid (((Fp.refl Non w).alloc _).then g1.fp)
  clear g1
  go_wp2
  go_ret
  exact ⟨rfl, F.out⟩
 | some u => ?_
 have hul : u.length ≤ 100 := by obtain ⟨_, _, _, h, _⟩ := parent_some hu; exact h
 have hl : lies l ⟨p, d, v, t, o⟩ = free l u := by unfold lies; rw [hu]
 rw [hl]
 rw [hu] at hpar
 have hfree : ∀ c : Int, (∀ x, find l u = some x → c = x.own) → free l u = ((find l u).isSome && (c == 0)) := fun c hc => by
  unfold free
  cases hf : find l u with
  | none => rfl
  | some x => rw [hc x hf]; rfl
 have HP := Lib.hid hpar
 have HM := Lib.hid hm
 have HF := Lib.hid hfree
 have HU := Lib.hid hul
 generalize free l u = r at *
 clear hpar hl hu hm hfree hul
 go_enter Tryz.func109, Tryz.ntmps109
 go_wp2_with fail
 refine (HP.out _).mono ?_
 rintro e w1 ⟨rfl, g1⟩
 have f1 := ((Fp.refl Non w).alloc _).then g1.fp
 obtain ⟨D, hD⟩ := HM.out.keep f1 id
 obtain ⟨c, hc, hr⟩ := hD.look u (by have := HU.out; unfold maxLen; omega)
 have hfr := HF.out c hc
 generalize (find l u).isSome = s at *
 have F := Lib.hid f1
 have HR := Lib.hid hr
 have HFR := Lib.hid hfr
 clear f1 g1 hD hc hr hfr
 go_wp2_with (refine wpList_lookup_run rfl TO _ _ true rfl _ _ _ rfl rfl HR.out ?_)
 all_goals (go_ret; refine ⟨ret_bool ?_, F.out⟩; rw [HFR.out]; simp [*])
end Go.Proofs.YtphoglepiegeiaaGreatDoor
namespace Go.Proofs.YtphoglepiegeiaaGreatDoor
set_option maxRecDepth 20000
open Go.RowKit
theorem zA {α : Type _} {xs : List α} {i : Nat} : xs.toArray[i]? = xs[i]? := List.getElem?_toArray
theorem zB {α : Type _} {a : α} {l : List α} : (a :: l)[0]? = some a := rfl
theorem zC {α : Type _} {a : α} {l : List α} {i : Nat} : (a :: l)[i + 1]? = l[i]? := rfl
theorem zP (a : Act) (i : Tmp) (v : Value) : a.put (some i) v = { a with tmps := a.tmps.setIfInBounds i v } := rfl
theorem zN (a : Act) (v : Value) : a.put none v = a := rfl
theorem zS {α : Type _} {l : List α} {i : Nat} {a : α} : l.toArray.setIfInBounds i a = (l.set i a).toArray := by simp
theorem zT {α : Type _} {b a : α} {l : List α} : (b :: l).set 0 a = a :: l := rfl
theorem zU {α : Type _} {b a : α} {l : List α} {i : Nat} : (b :: l).set (i + 1) a = b :: l.set i a := rfl
theorem zz : (∀ (a : Act) (i : Tmp) (v : Value), a.put (some i) v = { a with tmps := a.tmps.setIfInBounds i v }) ∧ (∀ (a : Act) (v : Value), a.put none v = a) ∧ (∀ {α : Type} {l : List α} {i : Nat} {a : α}, l.toArray.setIfInBounds i a = (l.set i a).toArray) ∧ (∀ {α : Type} {b a : α} {l : List α}, (b :: l).set 0 a = a :: l) ∧ (∀ {α : Type} {b a : α} {l : List α} {i : Nat}, (b :: l).set (i + 1) a = b :: l.set i a) :=
 ⟨zP, zN, zS, zT, zU⟩
theorem zI {p : Prop} (h : p) : Hid p := Lib.hid h
theorem yI {a b : Prop} (h : a) (g : b) : a ∧ b := And.intro h g
section
variable {P : Program} {ops : Array Oper} {Q : Exit → Act → World → Prop} {md : Region.Mode} {S : World → Prop}
theorem b5 {w : World} {b : Nat} {T : TypeId} {c0 c1 c2 c3 c4 : Value} (h : w.heap[b]? = some (.cells #[c0, c1, c2, c3, c4] T (0, 0))) :
  w.cell? ⟨b, 0, none⟩ = some c0 ∧ w.cell? ⟨b, 1, none⟩ = some c1 ∧ w.cell? ⟨b, 2, none⟩ = some c2 ∧ w.cell? ⟨b, 3, none⟩ = some c3 ∧ w.cell? ⟨b, 4, none⟩ = some c4 :=
 ⟨by rw [cell_of_row _ _ _ _ _ _ h]; rfl, by rw [cell_of_row _ _ _ _ _ _ h]; rfl, by rw [cell_of_row _ _ _ _ _ _ h]; rfl, by rw [cell_of_row _ _ _ _ _ _ h]; rfl, by rw [cell_of_row _ _ _ _ _ _ h]; rfl⟩
theorem tk (i : Nat) {oi : Oper} {v : Value} {fuel : Nat} {listed : Array Bool} {a a' : Act} {w : World} (hS : S w) (k : wpAnyH P md ops Q S fuel (listed.setIfInBounds i true) a' w) (hi : ops[i]? = some oi := by simp only [zA, zB, zC] <;> exact rfl)
  (y : ∀ w, S w → (execOp a.eval oi).run P w = .ok (.value v) w := by intro w; (try dsimp only); (try simp only [and_imp]); intros; go_simp; try with_reducible rfl)
  (ha : a.put oi.dst v = a' := by simp only [zP, zN, zS, zT, zU] <;> exact rfl)
  (hs : Region.noSelect ops = true := by kernel_rfl) (hf : Region.free md ops listed i = true := by kernel_rfl) (hr : (Region.ready md ops listed).contains i = true := by kernel_rfl)
  (hq : ∀ c a w, Q (.panic c) (a.put oi.dst v) w → Q (.panic c) a w := by exact fun _ _ _ h => h) (hw : Region.wanted oi (yielded ops a.tmps) = true := by rfl) :
  wpAnyH P md ops Q S (fuel + 1) listed a w := by subst ha; exact wpAnyH_take hi hs hf hr hq (.inl ⟨hw, y⟩) hS k
theorem sk (i : Nat) {oi : Oper} {fuel : Nat} {listed : Array Bool} {a a' : Act} {w : World} (hS : S w)
  (k : wpAnyH P md ops Q S fuel (listed.setIfInBounds i true) a' w) (hi : ops[i]? = some oi := by simp only [zA, zB, zC] <;> exact rfl)
  (ha : a.put oi.dst undef = a' := by simp only [zP, zN, zS, zT, zU] <;> exact rfl)
  (hs : Region.noSelect ops = true := by kernel_rfl) (hf : Region.free md ops listed i = true := by kernel_rfl) (hr : (Region.ready md ops listed).contains i = true := by kernel_rfl)
  (hq : ∀ c a w, Q (.panic c) (a.put oi.dst undef) w → Q (.panic c) a w := by exact fun _ _ _ h => h) (hw : Region.wanted oi (yielded ops a.tmps) = false := by rfl) :
  wpAnyH P md ops Q S (fuel + 1) listed a w := by subst ha; exact wpAnyH_take hi hs hf hr hq (.inr ⟨hw, rfl⟩) hS k
theorem rY (i : Nat) {o : Oper} {fuel : Nat} {listed : Array Bool} {a : Act} {w : World}
  (h : ∀ K' : Act → World → Prop, Shut (∀ a w, S w → (S w → wpAnyH P md ops Q S fuel (listed.setIfInBounds i true) a w) → K' a w) → if Region.wanted o (yielded ops a.tmps) = true then Oper.wp P o a w K' Q else K' (a.put o.dst undef) w)
  (ho : ops[i]? = some o := by simp only [zA, zB, zC] <;> exact rfl) (hr : Region.ready md ops listed = [i] := by kernel_rfl) : wpAnyH P md ops Q S (fuel + 1) listed a w := wpAnyH_ready hr (by simp) (AllReadyH.cons ho h AllReadyH.nil)
theorem dn {fuel : Nat} {listed : Array Bool} {a : Act} {w : World} (h : Q .normal a w) (hd : Region.ready md ops listed = [] := by kernel_rfl) : wpAnyH P md ops Q S fuel listed a w := wpAnyH_done hd h fuel
end
end Go.Proofs.YtphoglepiegeiaaGreatDoor
namespace Go.Proofs.YtphoglepiegeiaaGreatDoor
set_option maxRecDepth 20000
open Go.RowKit Pm
def Sp (l : List Nd) : Prop := ∀ n ∈ l, n.path.length ≤ 1000000
structure RgM (l : List Nd) (m : Nat) (w : World) (k : Nat) (wr : World) : Prop where
 fp : Fp Non w wr
 om : Om wr m (l.take k)
 chk : ∀ j (h : j < l.length), j < k → Chk l j h
 lo : w.heap.size ≤ m
theorem tree_not {l : List Nd} {k : Nat} (hk : k < l.length) (h : ¬ Chk l k hk) : right l = false := right_false (fun t => h (t.chk k hk))
theorem NdAt.box (w : World) (x : Nd) : NdAt (w.alloc (Obj.cells #[.string (B x.path), .string (B x.data), .int .i64 x.ver, .int .i64 x.turn, .int .i64 x.own] 79)) w.heap.size 0 x := by
 have h := heap_alloc_new w (Obj.cells #[.string (B x.path), .string (B x.data), .int .i64 x.ver, .int .i64 x.turn, .int .i64 x.own] 79)
 exact ⟨by rw [cell_of_row _ _ _ _ _ _ h]; rfl, by rw [cell_of_row _ _ _ _ _ _ h]; rfl, by rw [cell_of_row _ _ _ _ _ _ h]; rfl, by rw [cell_of_row _ _ _ _ _ _ h]; rfl, by rw [cell_of_row _ _ _ _ _ _ h]; rfl⟩
theorem NdAt.five {w : World} {g : Nat} {x : Nd} (h : NdAt w g 0 x) : w.cell? ⟨g, 0, none⟩ = some (.string (B x.path)) ∧ w.cell? ⟨g, 1, none⟩ = some (.string (B x.data)) ∧ w.cell? ⟨g, 2, none⟩ = some (.int .i64 x.ver) ∧ w.cell? ⟨g, 3, none⟩ = some (.int .i64 x.turn) ∧ w.cell? ⟨g, 4, none⟩ = some (.int .i64 x.own) :=
 ⟨h.c0, h.c1, h.c2, h.c3, h.c4⟩
theorem find_new {l : List Nd} {k : Nat} (hk : k < l.length) (h : ∀ j (h : j < l.length), j < k → Chk l j h) (hlt : 0 < k → ∀ h' : k - 1 < l.length, lt l[k-1].path l[k].path = true) : find (l.take k) l[k].path = none := by
 have hA : Asc (l.take (k + 1)) := asc_of (fun i hi => by
  rw [List.length_take] at hi
  simp only [List.getElem_take]
  rcases Nat.lt_or_eq_of_le (show i + 1 ≤ k by omega) with e | e
  ·have := ((h (i + 1) (by omega) e).2 (by omega)).1 (by omega)
   simpa using this
  have := hlt (by omega) (by omega)
  simp only [← e] at this ⊢
  simpa using this)
 rw [find_none]
 intro x hx e
 obtain ⟨i, hi, rfl⟩ := List.getElem_of_mem hx
 rw [List.length_take] at hi
 have := hA i k (by rw [List.length_take]; omega) (by rw [List.length_take]; omega) (by omega)
 simp only [List.getElem_take] at this e
 rw [e, lt_irrefl] at this; cases this
theorem RgM.next {l : List Nd} {m : Nat} {w wr w1 w2 : World} {k : Nat} (h : RgM l m w k wr) (hk : k < l.length) (f : Fp Non wr w1) (hc : Chk l k hk) (hu : OuR m (l.take k ++ [l[k]]) w1 w2) : RgM l m w (k + 1) w2 := by
 refine ⟨(h.fp.then f).trans hu.fp (fun j hj => .inr (by rw [hj]; exact h.lo)), ?_, fun j hj hjk => ?_, h.lo⟩
 ·rw [List.take_succ_eq_append_getElem hk]; exact hu.om
 rcases Nat.lt_or_eq_of_le (show j ≤ k by omega) with e | e
 ·exact h.chk j hj e
 subst e; exact hc
set_option maxHeartbeats 4000000 in
theorem Right_loop (v : Value) (l : List Nd) (w : World) (hv : Ns w v l) (hs : Sp l) (h0 : 0 < l.length) (h5 : l.length ≤ 512) (hr : (l[0]'h0).path = [47]) (ho : (l[0]'h0).own = 0) :
  Calls Tryz.prog 75 #[v] w fun e w' => e = .returned (.bool (right l)) ∧ Fp Non w w' := by
 obtain ⟨g, o, cap, rfl, hlc, hcm, hgl, hcell⟩ := hv.at h0
 have hc0 := hcell 0 h0
 obtain ⟨n, hn⟩ : ∃ n, n = l.length := ⟨_, rfl⟩
 have q0 : w.cell? ⟨g, o, none⟩ = some (.string ⟨#[47]⟩) := by have := hc0.c0; rw [hr] at this; simpa [strV, B] using this
 have q4 : w.cell? ⟨g, o + 4, none⟩ = some (.int .i64 0) := by have := hc0.c4; rw [ho] at this; simpa using this
 have q1 : ((512 : Int) < (n : Int)) = False := eq_false (by omega)
 have q2 : ((n : Int) == 0) = false := beq_eq_false_iff_ne.2 (by omega)
 have H0 : Hid (RgM l w.heap.size w 0 (w.alloc (.map #[] 0))) := ⟨(Fp.refl Non w).alloc _, by rw [List.take_zero]; exact Om.made w, fun j _ h => absurd h (Nat.not_lt_zero j), Nat.le_refl _⟩
 obtain ⟨r, hrr⟩ : ∃ r, r = right l := ⟨_, rfl⟩
 have HT : Hid ((∀ i (hi : i < l.length), Chk l i hi) → r = true) := fun h => by rw [hrr]; exact right_true (tree_of_chk h0 h5 hr ho h)
 have HFa : Hid (∀ k (hk : k < l.length), ¬ Chk l k hk → r = false) := fun k hk h => by rw [hrr]; exact tree_not hk h
 rw [← hrr, ← hn]
 have HX := zI (yI hn (yI hcell (yI hs hgl)))
 have hnb : n ≤ 512 := by omega
 have hn0 : 0 < n := by omega
 clear hv hlc hcm hc0 hcell hr ho hrr hs h5 hn h0 hgl
 have hmm := make_owners
 go_enter Tryz.func75, Tryz.ntmps75
 go_wp2_with fail
 clear hmm q0 q4
 go_loopw [33] (fun i wr => ∃ k : Nat, k ≤ n ∧ i = .int .i64 k ∧ Hid (RgM l w.heap.size w k wr)) (fun i _ => n - (RowKit.intOf i).toNat)
 case atStart => exact ⟨0, Nat.zero_le _, rfl, H0⟩
 obtain ⟨k, hk, rfl, hR⟩ := hrel
 rename_i wr _
 by_cases hlt : k < n
 ·have hkl : k < l.length := by rw [← HX.out.1]; exact hlt
  have hnd := (HX.out.2.1 k hkl).keep hR.out.fp id
  obtain ⟨x, hx⟩ : ∃ x, x = l[k] := ⟨_, rfl⟩
  rw [← hx] at hnd
  have c0 := hnd.c0; have c1 := hnd.c1; have c2 := hnd.c2; have c3 := hnd.c3; have c4 := hnd.c4
  unfold strV at c0 c1
  have q3 : ((k : Int) < (n : Int)) = True := eq_true (by omega)
  have q4 : (k < n) = True := eq_true hlt
  have hxm : x ∈ l := by rw [hx]; exact List.getElem_mem hkl
  have hbx := NdAt.box wr x
  have hfx : Fp Non wr (wr.alloc (Obj.cells #[.string (B x.path), .string (B x.data), .int .i64 x.ver, .int .i64 x.turn, .int .i64 x.own] 79)).drew := ((Fp.refl Non wr).alloc _).drew
  have hbd : NdAt (wr.alloc (Obj.cells #[.string (B x.path), .string (B x.data), .int .i64 x.ver, .int .i64 x.turn, .int .i64 x.own] 79)).drew wr.heap.size 0 x := hbx.keep ((Fp.refl Non _).drew) id
  have hfc := fun w => fits_c x w
  have hml := fun w hm => mayLie_c x w.heap.size (l.take k) w (HX.out.2.2.1 x hxm) hm
  unfold ndV strV at hfc
  have HB := zI (yI hfx (yI hbd hbx))
  have HXX := zI hx
  have HK := zI (yI hlt hxm)
  clear hnd hbx hfx hbd hml
  by_cases hfit : fitsB x = true
  ·rw [hfit] at hfc
   have HFC := zI hfc
   clear hfc
   rcases Nat.eq_zero_or_pos k with hk0 | hk0
   ·subst hk0
    simp only [Nat.zero_mul, Nat.add_zero] at c0 c1 c2 c3 c4
    have HLT : Hid (0 < 0 → ∀ h' : 0 - 1 < l.length, lt l[0-1].path l[0].path = true) := fun h => absurd h (by omega)
    have HCHK : Hid (Chk l 0 hkl) := ⟨by rw [← hx]; exact hfit, fun h => absurd h (by omega)⟩
    clear hx hxm
    go_wp2_with fail
    refine wp_region_held_drew (S := (fun w' => w'.cell? ⟨wr.heap.size, 0, none⟩ = some (.string (B x.path)) ∧ w'.cell? ⟨wr.heap.size, 1, none⟩ = some (.string (B x.data)) ∧ w'.cell? ⟨wr.heap.size, 2, none⟩ = some (.int .i64 x.ver) ∧ w'.cell? ⟨wr.heap.size, 3, none⟩ = some (.int .i64 x.turn) ∧ w'.cell? ⟨wr.heap.size, 4, none⟩ = some (.int .i64 x.own))) (by kernel_rfl) ?_ (fun hH => ?_)
    ·exact HB.out.2.1.five
    refine tk 0 hH ?_
    refine rY 1 fun K hK => ?_
    go_simp
    go_at_call 108
    refine (HFC.out _).mono ?_
    rintro e w1 ⟨rfl, hf1⟩
    have HS1 := zI (HB.out.2.1.keep hf1 id).five
    have HF1 := zI (HB.out.1.then hf1)
    clear hf1
    have hup := fun (D : DataW Unit) (hD : OmAt w1 w.heap.size (l.take 0) D) => hD.upd x (by rw [HXX.out]; exact find_new hkl hR.out.chk HLT.out) (by have := HX.out.2.2.1 x HK.out.2; unfold maxLen; omega) (by have := (fits_iff x).1 hfit; omega) (by rw [List.length_take]; unfold maxLen; omega)
    have hup2 : ∃ w', (Instr.mapUpdate TO (.map (some w.heap.size)) (.string (B x.path)) (.int .i64 x.own)).run Tryz.prog w1 = .ok () w' ∧ OuR w.heap.size (l.take 0 ++ [x]) w1 w' := by
     obtain ⟨D, hD⟩ := hR.out.om.keep HF1.out id
     exact hup D hD
    have HUP := zI hup2
    have HNX : Hid (∀ w9, OuR w.heap.size (l.take 0 ++ [x]) w1 w9 → RgM l w.heap.size w (0 + 1) w9) := fun w9 hu => hR.out.next hkl HF1.out HCHK.out (by rw [← HXX.out]; exact hu)
    clear hup hup2
    clear HLT HCHK hfit
    go_wp2_with fail
    refine hK.out _ _ HS1.out (fun hH => ?_)
    clear hK K
    try simp only [zz]
    refine tk 2 hH ?_
    refine tk 3 hH ?_
    refine tk 4 hH ?_
    refine tk 5 hH ?_
    refine tk 6 hH ?_
    refine sk 7 hH ?_
    refine sk 8 hH ?_
    refine sk 9 hH ?_
    refine sk 10 hH ?_
    refine sk 11 hH ?_
    refine sk 12 hH ?_
    refine sk 13 hH ?_
    refine sk 14 hH ?_
    refine sk 15 hH ?_
    refine sk 16 hH ?_
    refine sk 17 hH ?_
    refine sk 18 hH ?_
    refine sk 19 hH ?_
    refine sk 20 hH ?_
    refine sk 21 hH ?_
    refine tk 22 hH ?_
    refine tk 23 hH ?_
    refine dn ?_
    have b0 : w1.cell? ⟨wr.heap.size, 0, none⟩ = some (.string (B x.path)) := HS1.out.1
    have b4 : w1.cell? ⟨wr.heap.size, 4, none⟩ = some (.int .i64 x.own) := HS1.out.2.2.2.2
    clear HXX hkl hlt hk
    go_wp2_with fail
    obtain ⟨w3, hr3, hu3⟩ := HUP.out
    rw [hr3]
    simp only [Result.andThen]
    rw [Oper.upon_skip]
    clear hr3
    have hM : Hid (RgM l w.heap.size w (0 + 1) w3) := HNX.out _ hu3
    clear hu3
    go_wp2
    go_roundw
    case rel => exact ⟨0 + 1, by have := HK.out.1; omega, by go_num, hM⟩
    case measure => have := HK.out.1; simp [RowKit.intOf]; omega
   obtain ⟨y, hy⟩ : ∃ y, y = (l[k-1]'(by omega)).path := ⟨_, rfl⟩
   have hpv : wr.cell? ⟨g, o + (k - 1) * 5, none⟩ = some (.string (B y)) := by have := ((HX.out.2.1 (k - 1) (by omega)).keep hR.out.fp id).c0; rw [← hy] at this; exact this
   have HPV := zI hpv
   have HY := zI hy
   have HXM := zI hxm
   have HK0 := zI hk0
   have wk : IntKind.i64.wrap ((k : Int) - 1) = ((k - 1 : Nat) : Int) := by rw [IntKind.wrap_i64]; omega
   have qz : ((0 : Int) < (k : Int)) = True := eq_true (by omega)
   have qz2 : (0 < k) = True := eq_true hk0
   have qn : (((k - 1 : Nat) : Int) < (n : Int)) = True := eq_true (by omega)
   have qn2 : (k - 1 < n) = True := eq_true (by omega)
   by_cases hle : (Op.bytesLess x.path y || x.path == y) = true
   ·have hrf : r = false := HFa.out k hkl (fun c => by
     have h1 := (c.2 hk0).1 (by omega)
     rw [← HXX.out, ← hy] at h1
     simp only [Bool.or_eq_true, beq_iff_eq] at hle
     rcases hle with h | h
     ·have := lt_asymm h; rw [h1] at this; cases this
     rw [h, lt_irrefl] at h1; cases h1)
    have HRF := zI hrf
    clear HY HXM HK0
    clear HXX hrf hx hxm hkl hlt hk hy hk0 hpv hfit
    go_wp2_with fail
    refine wp_region_held_drew (S := (fun w' => w'.cell? ⟨wr.heap.size, 0, none⟩ = some (.string (B x.path)) ∧ w'.cell? ⟨wr.heap.size, 1, none⟩ = some (.string (B x.data)) ∧ w'.cell? ⟨wr.heap.size, 2, none⟩ = some (.int .i64 x.ver) ∧ w'.cell? ⟨wr.heap.size, 3, none⟩ = some (.int .i64 x.turn) ∧ w'.cell? ⟨wr.heap.size, 4, none⟩ = some (.int .i64 x.own) ∧ w'.cell? ⟨g, o + (k - 1) * 5, none⟩ = some (.string (B y)))) (by kernel_rfl) ?_ (fun hH => ?_)
    ·exact ⟨HB.out.2.1.c0, HB.out.2.1.c1, HB.out.2.1.c2, HB.out.2.1.c3, HB.out.2.1.c4, HB.out.1.cell HPV.out id⟩
    refine tk 0 hH ?_
    refine rY 1 fun K hK => ?_
    go_simp
    go_at_call 108
    refine (HFC.out _).mono ?_
    rintro e w1 ⟨rfl, hf1⟩
    have HS1 := zI (HB.out.2.1.keep hf1 id).five
    have HF1 := zI (HB.out.1.then hf1)
    have HP1 := zI (HB.out.1.then hf1 |>.cell HPV.out id)
    clear hf1
    go_wp2_with fail
    refine hK.out _ _ ⟨HS1.out.1, HS1.out.2.1, HS1.out.2.2.1, HS1.out.2.2.2.1, HS1.out.2.2.2.2, HP1.out⟩ (fun hH => ?_)
    clear hK K
    try simp only [zz]
    refine tk 2 hH ?_
    refine tk 3 hH ?_
    refine tk 4 hH ?_
    refine tk 5 hH ?_
    refine tk 6 hH ?_
    refine tk 7 hH ?_
    refine tk 8 hH ?_
    refine tk 9 hH ?_
    refine tk 10 hH ?_
    refine tk 11 hH ?_
    refine tk 12 hH ?_
    refine tk 13 hH ?_
    refine tk 14 hH ?_
    refine tk 15 hH ?_
    refine tk 16 hH ?_
    refine sk 17 hH ?_
    refine sk 18 hH ?_
    refine sk 19 hH ?_
    refine sk 20 hH ?_
    refine tk 21 hH ?_
    refine tk 22 hH ?_
    refine tk 23 hH ?_
    refine dn ?_
    go_wp2
    go_ret
    exact ⟨ret_bool HRF.out.symm, hR.out.fp.then HF1.out⟩
   have hle' : (Op.bytesLess x.path y || x.path == y) = false := by simpa using hle
   have hgt : lt y x.path = true := by
    simp only [Bool.or_eq_false_iff, beq_eq_false_iff_ne] at hle'
    exact lt_of hle'.1 hle'.2
   clear hle
   by_cases hli : lies (l.take k) x = true
   ·have HLT : Hid (0 < k → ∀ h' : k - 1 < l.length, lt l[k-1].path l[k].path = true) := fun _ h => by rw [← hx, ← hy]; exact hgt
    have HCHK : Hid (Chk l k hkl) := ⟨by rw [← hx]; exact hfit, fun h => ⟨HLT.out h, by rw [← hx]; exact hli⟩⟩
    have HLI := zI hli
    clear hli hgt HY HXM HK0 hx hxm hy hk0 hpv
    go_wp2_with fail
    refine wp_region_held_drew (S := (fun w' => w'.cell? ⟨wr.heap.size, 0, none⟩ = some (.string (B x.path)) ∧ w'.cell? ⟨wr.heap.size, 1, none⟩ = some (.string (B x.data)) ∧ w'.cell? ⟨wr.heap.size, 2, none⟩ = some (.int .i64 x.ver) ∧ w'.cell? ⟨wr.heap.size, 3, none⟩ = some (.int .i64 x.turn) ∧ w'.cell? ⟨wr.heap.size, 4, none⟩ = some (.int .i64 x.own) ∧ w'.cell? ⟨g, o + (k - 1) * 5, none⟩ = some (.string (B y)))) (by kernel_rfl) ?_ (fun hH => ?_)
    ·exact ⟨HB.out.2.1.c0, HB.out.2.1.c1, HB.out.2.1.c2, HB.out.2.1.c3, HB.out.2.1.c4, HB.out.1.cell HPV.out id⟩
    refine tk 0 hH ?_
    refine rY 1 fun K hK => ?_
    go_simp
    go_at_call 108
    refine (HFC.out _).mono ?_
    rintro e w1 ⟨rfl, hf1⟩
    have HS1 := zI (HB.out.2.1.keep hf1 id).five
    have HF1 := zI (HB.out.1.then hf1)
    have HP1 := zI (HB.out.1.then hf1 |>.cell HPV.out id)
    have HB1 := zI (HB.out.2.1.keep hf1 id)
    clear hf1
    have hml1 := mayLie_c x w.heap.size (l.take k) w1 (HX.out.2.2.1 x HK.out.2) (hR.out.om.keep HF1.out id)
    unfold ndV strV at hml1
    rw [HLI.out] at hml1
    have HML := zI hml1
    clear hml1
    go_wp2_with fail
    refine hK.out _ _ ⟨HS1.out.1, HS1.out.2.1, HS1.out.2.2.1, HS1.out.2.2.2.1, HS1.out.2.2.2.2, HP1.out⟩ (fun hH => ?_)
    clear hK K
    try simp only [zz]
    refine tk 2 hH ?_
    refine tk 3 hH ?_
    refine tk 4 hH ?_
    refine tk 5 hH ?_
    refine tk 6 hH ?_
    refine tk 7 hH ?_
    refine tk 8 hH ?_
    refine tk 9 hH ?_
    refine tk 10 hH ?_
    refine tk 11 hH ?_
    refine tk 12 hH ?_
    refine tk 13 hH ?_
    refine tk 14 hH ?_
    refine tk 15 hH ?_
    refine tk 16 hH ?_
    refine tk 17 hH ?_
    refine tk 18 hH ?_
    refine rY 19 fun K hK => ?_
    go_simp
    go_at_call 109
    refine HML.out.mono ?_
    rintro e w2 ⟨rfl, hf2⟩
    have HS2 := zI (HB1.out.keep hf2 id).five
    have HP2 := zI (hf2.cell HP1.out id)
    have HF2 := zI (HF1.out.then hf2)
    clear hf2
    have hup := fun (D : DataW Unit) (hD : OmAt w2 w.heap.size (l.take k) D) => hD.upd x (by rw [HXX.out]; exact find_new hkl hR.out.chk HLT.out) (by have := HX.out.2.2.1 x HK.out.2; unfold maxLen; omega) (by have := (fits_iff x).1 hfit; omega) (by rw [List.length_take]; unfold maxLen; omega)
    have hup2 : ∃ w', (Instr.mapUpdate TO (.map (some w.heap.size)) (.string (B x.path)) (.int .i64 x.own)).run Tryz.prog w2 = .ok () w' ∧ OuR w.heap.size (l.take k ++ [x]) w2 w' := by
     obtain ⟨D, hD⟩ := hR.out.om.keep HF2.out id
     exact hup D hD
    have HUP := zI hup2
    have HNX : Hid (∀ w9, OuR w.heap.size (l.take k ++ [x]) w2 w9 → RgM l w.heap.size w (k + 1) w9) := fun w9 hu => hR.out.next hkl HF2.out HCHK.out (by rw [← HXX.out]; exact hu)
    clear hup hup2
    go_wp2_with fail
    refine hK.out _ _ ⟨HS2.out.1, HS2.out.2.1, HS2.out.2.2.1, HS2.out.2.2.2.1, HS2.out.2.2.2.2, HP2.out⟩ (fun hH => ?_)
    clear hK K
    try simp only [zz]
    refine tk 20 hH ?_
    refine tk 21 hH ?_
    refine tk 22 hH ?_
    refine tk 23 hH ?_
    refine dn ?_
    have b0 : w2.cell? ⟨wr.heap.size, 0, none⟩ = some (.string (B x.path)) := HS2.out.1
    have b4 : w2.cell? ⟨wr.heap.size, 4, none⟩ = some (.int .i64 x.own) := HS2.out.2.2.2.2
    clear HXX HLT HCHK hfit hkl hlt hk
    go_wp2_with fail
    obtain ⟨w3, hr3, hu3⟩ := HUP.out
    rw [hr3]
    simp only [Result.andThen]
    rw [Oper.upon_skip]
    clear hr3
    have hM : Hid (RgM l w.heap.size w (k + 1) w3) := HNX.out _ hu3
    clear hu3
    have q13 : wrap64 ((k : Int) + 1) = ((k + 1 : Nat) : Int) := by have := HK.out.1; unfold wrap64; omega
    have Q13 := zI q13
    clear q13
    go_wp2
    go_roundw
    case rel => exact ⟨k + 1, by have := HK.out.1; omega, congrArg (Value.int .i64) Q13.out, hM⟩
    case measure => have := HK.out.1; rw [Q13.out]; simp [RowKit.intOf]; omega
   have hrf : r = false := HFa.out k hkl (fun c => hli (by have := (c.2 hk0).2; rw [← hx] at this; exact this))
   have HRF := zI hrf
   have HLI := zI (show lies (l.take k) x = false by simpa using hli)
   clear hli hgt HY HXM HK0
   clear HXX hrf hx hxm hkl hlt hk hy hk0 hpv hfit
   go_wp2_with fail
   refine wp_region_held_drew (S := (fun w' => w'.cell? ⟨wr.heap.size, 0, none⟩ = some (.string (B x.path)) ∧ w'.cell? ⟨wr.heap.size, 1, none⟩ = some (.string (B x.data)) ∧ w'.cell? ⟨wr.heap.size, 2, none⟩ = some (.int .i64 x.ver) ∧ w'.cell? ⟨wr.heap.size, 3, none⟩ = some (.int .i64 x.turn) ∧ w'.cell? ⟨wr.heap.size, 4, none⟩ = some (.int .i64 x.own) ∧ w'.cell? ⟨g, o + (k - 1) * 5, none⟩ = some (.string (B y)))) (by kernel_rfl) ?_ (fun hH => ?_)
   ·exact ⟨HB.out.2.1.c0, HB.out.2.1.c1, HB.out.2.1.c2, HB.out.2.1.c3, HB.out.2.1.c4, HB.out.1.cell HPV.out id⟩
   refine tk 0 hH ?_
   refine rY 1 fun K hK => ?_
   go_simp
   go_at_call 108
   refine (HFC.out _).mono ?_
   rintro e w1 ⟨rfl, hf1⟩
   have HS1 := zI (HB.out.2.1.keep hf1 id).five
   have HF1 := zI (HB.out.1.then hf1)
   have HP1 := zI (HB.out.1.then hf1 |>.cell HPV.out id)
   have HB1 := zI (HB.out.2.1.keep hf1 id)
   clear hf1
   have hml1 := mayLie_c x w.heap.size (l.take k) w1 (HX.out.2.2.1 x HK.out.2) (hR.out.om.keep HF1.out id)
   unfold ndV strV at hml1
   rw [HLI.out] at hml1
   have HML := zI hml1
   clear hml1
   go_wp2_with fail
   refine hK.out _ _ ⟨HS1.out.1, HS1.out.2.1, HS1.out.2.2.1, HS1.out.2.2.2.1, HS1.out.2.2.2.2, HP1.out⟩ (fun hH => ?_)
   clear hK K
   try simp only [zz]
   refine tk 2 hH ?_
   refine tk 3 hH ?_
   refine tk 4 hH ?_
   refine tk 5 hH ?_
   refine tk 6 hH ?_
   refine tk 7 hH ?_
   refine tk 8 hH ?_
   refine tk 9 hH ?_
   refine tk 10 hH ?_
   refine tk 11 hH ?_
   refine tk 12 hH ?_
   refine tk 13 hH ?_
   refine tk 14 hH ?_
   refine tk 15 hH ?_
   refine tk 16 hH ?_
   refine tk 17 hH ?_
   refine tk 18 hH ?_
   refine rY 19 fun K hK => ?_
   go_simp
   go_at_call 109
   refine HML.out.mono ?_
   rintro e w2 ⟨rfl, hf2⟩
   have HS2 := zI (HB1.out.keep hf2 id).five
   have HP2 := zI (hf2.cell HP1.out id)
   have HF2 := zI (HF1.out.then hf2)
   clear hf2
   go_wp2_with fail
   refine hK.out _ _ ⟨HS2.out.1, HS2.out.2.1, HS2.out.2.2.1, HS2.out.2.2.2.1, HS2.out.2.2.2.2, HP2.out⟩ (fun hH => ?_)
   clear hK K
   try simp only [zz]
   refine tk 20 hH ?_
   refine tk 21 hH ?_
   refine tk 22 hH ?_
   refine tk 23 hH ?_
   refine dn ?_
   go_wp2
   go_ret
   exact ⟨ret_bool HRF.out.symm, hR.out.fp.then HF2.out⟩
  have hf : fitsB x = false := by simpa using hfit
  have hrf : r = false := HFa.out k hkl (fun c => by have := c.1; rw [← hx, hf] at this; cases this)
  rw [hf] at hfc
  have HFC := zI hfc
  have HRF := zI hrf
  clear HXX hfit hf hfc hrf hx hkl hlt hk hxm
  go_wp2_with fail
  refine wp_region_held_drew (S := (fun w' => w'.cell? ⟨wr.heap.size, 0, none⟩ = some (.string (B x.path)) ∧ w'.cell? ⟨wr.heap.size, 1, none⟩ = some (.string (B x.data)) ∧ w'.cell? ⟨wr.heap.size, 2, none⟩ = some (.int .i64 x.ver) ∧ w'.cell? ⟨wr.heap.size, 3, none⟩ = some (.int .i64 x.turn) ∧ w'.cell? ⟨wr.heap.size, 4, none⟩ = some (.int .i64 x.own))) (by kernel_rfl) ?_ (fun hH => ?_)
  ·exact HB.out.2.1.five
  refine tk 0 hH ?_
  refine rY 1 fun K hK => ?_
  go_simp
  go_at_call 108
  refine (HFC.out _).mono ?_
  rintro e w1 ⟨rfl, hf1⟩
  have HS1 := zI (HB.out.2.1.keep hf1 id).five
  have HF1 := zI (HB.out.1.then hf1)
  clear hf1
  go_wp2_with fail
  refine hK.out _ _ HS1.out (fun hH => ?_)
  clear hK K
  try simp only [zz]
  refine tk 2 hH ?_
  refine tk 3 hH ?_
  refine sk 4 hH ?_
  refine sk 5 hH ?_
  refine sk 6 hH ?_
  refine sk 7 hH ?_
  refine sk 8 hH ?_
  refine sk 9 hH ?_
  refine sk 10 hH ?_
  refine sk 11 hH ?_
  refine sk 12 hH ?_
  refine sk 13 hH ?_
  refine sk 14 hH ?_
  refine sk 15 hH ?_
  refine sk 16 hH ?_
  refine sk 17 hH ?_
  refine sk 18 hH ?_
  refine sk 19 hH ?_
  refine sk 20 hH ?_
  refine sk 21 hH ?_
  refine sk 22 hH ?_
  refine tk 23 hH ?_
  refine dn ?_
  go_wp2
  go_ret
  exact ⟨ret_bool HRF.out.symm, hR.out.fp.then HF1.out⟩
 have hke : k = n := by omega
 subst hke
 have hrt : r = true := HT.out (fun i hi => hR.out.chk i hi (by rw [HX.out.1]; exact hi))
 have HRT := zI hrt
 have q3 : ((k : Int) < (k : Int)) = False := eq_false (by omega)
 clear hlt hk hrt
 go_wp2
 go_ret
 exact ⟨ret_bool HRT.out.symm, hR.out.fp⟩
end Go.Proofs.YtphoglepiegeiaaGreatDoor
