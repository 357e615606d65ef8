/- A text of this proof. -/
import Derived.Test.YtphoglepiegeiaaGreatDoorZDB
import Derived.Test.YtphoglepiegeiaaGreatDoorZDH
import Derived.Test.YtphoglepiegeiaaGreatDoorZDI
set_option linter.unusedSimpArgs false
set_option linter.unusedVariables false
namespace Go.Proofs.YtphoglepiegeiaaGreatDoor
set_option maxRecDepth 20000
open Go.RowKit Pm
abbrev TU : TypeId := 81
abbrev TUL : TypeId := 23
theorem insT_length (l : List Tu) (k : Nat) (x : Tu) : (insT l k x).length = l.length + 1 := by
 have := congrArg List.length (ins_tn l k x)
 rw [List.length_map, ins_length, List.length_map] at this; exact this
theorem placeT_of {l : List Tu} {p : Bs} {k : Nat} (hk : k ≤ l.length) (h1 : ∀ i (h : i < l.length), i < k → lt l[i].dir p = true) (h2 : ∀ i (h : i < l.length), k ≤ i → lt l[i].dir p = false) : placeT l p = k := by
 rw [← place_tn]
 exact place_of (by simpa using hk) (fun i h hi => by rw [List.getElem_map]; exact h1 i (by simpa using h) hi) (fun i h hi => by rw [List.getElem_map]; exact h2 i (by simpa using h) hi)
theorem findT_place {l : List Tu} (ha : AscT l) (p : Bs) : findT l p = if h : placeT l p < l.length then (if (l[placeT l p]).dir = p then some l[placeT l p] else none) else none := by
 have h := find_place (ascT_iff.1 ha) p
 rw [find_tn] at h
 have inj : ∀ {a b : Option Tu}, a.map tn = b.map tn → a = b := fun {a b} e => by
  cases a <;> cases b <;> first | rfl | (cases e; done) | (exact congrArg some (tn_inj (Option.some.inj e)))
 apply inj
 rw [h]
 have hp := place_tn l p
 by_cases hl : placeT l p < l.length
 ·rw [dif_pos hl, dif_pos (by rw [hp, List.length_map]; exact hl)]
  have e : (l.map tn)[place (l.map tn) p]'(by rw [hp, List.length_map]; exact hl) = tn l[placeT l p] := by
   simp only [hp, List.getElem_map]
  rw [e]
  show (if (l[placeT l p]).dir = p then some (tn l[placeT l p]) else none) = _
  split <;> rfl
 rw [dif_neg hl, dif_neg (by rw [hp, List.length_map]; exact hl)]; rfl
def tuC (n : Tu) : List Value := [strV n.dir, .int .i64 n.next]
def tuV (n : Tu) : Value := .agg #[strV n.dir, .int .i64 n.next]
def rowsT (l : List Tu) : List Value := l.flatMap tuC
theorem tuC_len (n : Tu) : (tuC n).length = 2 := rfl
theorem rowsT_cons (n : Tu) (l : List Tu) : rowsT (n :: l) = tuC n ++ rowsT l := by simp [rowsT]
theorem rowsT_app (a b : List Tu) : rowsT (a ++ b) = rowsT a ++ rowsT b := by simp [rowsT]
theorem rowsT_len (l : List Tu) : (rowsT l).length = l.length * 2 := by
 induction l with
 | nil => rfl
 | cons n l ih => rw [rowsT_cons, List.length_append, tuC_len, ih, List.length_cons]; omega
theorem rowsT_get (l : List Tu) (i j : Nat) (hi : i < l.length) (hj : j < 2) : (rowsT l)[i * 2 + j]? = (tuC l[i])[j]? := by
 induction l generalizing i with
 | nil => simp at hi
 | cons n l ih =>
  rw [rowsT_cons]
  cases i with
  | zero => rw [List.getElem?_append_left (by rw [tuC_len]; omega)]; simp
  | succ i => ?_
  rw [List.getElem?_append_right (by rw [tuC_len]; omega), tuC_len, show (i + 1) * 2 + j - 2 = i * 2 + j from by omega, ih i (by simpa using hi)]
  simp
theorem rowsT_one (l : List Tu) : ∀ u ∈ rowsT l, u.oneCell' = true := by
 intro u hu
 unfold rowsT at hu
 rw [List.mem_flatMap] at hu
 obtain ⟨n, _, hu⟩ := hu
 simp only [tuC, List.mem_cons, List.not_mem_nil, or_false] at hu
 rcases hu with rfl | rfl <;> rfl
theorem rowsT_take (l : List Tu) (k : Nat) : (rowsT l).take (k * 2) = rowsT (l.take k) := by
 induction l generalizing k with
 | nil => simp [rowsT]
 | cons n l ih =>
  cases k with
  | zero => simp [rowsT]
  | succ k => rw [List.take_succ_cons, rowsT_cons, rowsT_cons, ← ih, List.take_append, tuC_len, List.take_of_length_le (by rw [tuC_len]; omega), show (k + 1) * 2 - 2 = k * 2 from by omega]
structure TuAt (w : World) (g o : Nat) (n : Tu) : Prop where
 c0 : w.cell? ⟨g, o, none⟩ = some (strV n.dir)
 c1 : w.cell? ⟨g, o + 1, none⟩ = some (.int .i64 n.next)
theorem TuAt.keep {w w' : World} {g o : Nat} {n : Tu} (h : TuAt w g o n) {S : Nat → Prop} (f : Fp S w w') (hS : ¬ S g) : TuAt w' g o n :=
 ⟨f.cell h.c0 hS, f.cell h.c1 hS⟩
theorem TuAt.get {w : World} {g o : Nat} {n : Tu} (h : TuAt w g o n) : ∀ j v, (tuC n)[j]? = some v → w.cell? ((⟨g, o, none⟩ : Addr).add j) = some v := by
 intro j v hv
 rw [Addr.add_lit]
 match j, hv with
 | 0, hv => rw [← Option.some.inj hv]; exact h.c0
 | 1, hv => rw [← Option.some.inj hv]; exact h.c1
 | j + 2, hv => simp [tuC] at hv
structure Ts (w : World) (v : Value) (l : List Tu) : Prop where
 ex : ∃ ao cap, v = .slice ao l.length cap ∧ l.length ≤ cap ∧ cap ≤ maxLen ∧ (l = [] ∨ ∃ g o, ao = some ⟨g, o, none⟩ ∧ g < w.heap.size ∧ ∀ i (h : i < l.length), TuAt w g (o + i * 2) l[i])
theorem Ts.keep {w w' : World} {v : Value} {l : List Tu} (h : Ts w v l) {S : Nat → Prop} (f : Fp S w w') (hS : ∀ k, v.ownBlock = some k → ¬ S k) : Ts w' v l := by
 obtain ⟨ao, cap, rfl, h1, h2, h3⟩ := h.ex
 refine ⟨ao, cap, rfl, h1, h2, ?_⟩
 rcases h3 with h3 | ⟨g, o, rfl, hg, hc⟩
 ·exact .inl h3
 exact .inr ⟨g, o, rfl, Nat.lt_of_lt_of_le hg f.size, fun i hi => (hc i hi).keep f (hS g rfl)⟩
theorem Ts.non {w w' : World} {v : Value} {l : List Tu} (h : Ts w v l) (f : Fp Non w w') : Ts w' v l := h.keep f (fun _ _ h => h)
theorem Ts.nil (w : World) : Ts w (.slice none 0 0) [] := ⟨none, 0, rfl, Nat.le_refl _, Nat.zero_le _, .inl rfl⟩
theorem Ts.shape {w : World} {v : Value} {l : List Tu} (h : Ts w v l) : ∃ ao cap, v = .slice ao l.length cap := by
 obtain ⟨ao, cap, rfl, _⟩ := h.ex; exact ⟨ao, cap, rfl⟩
theorem Ts.at {w : World} {v : Value} {l : List Tu} (h : Ts w v l) (h0 : 0 < l.length) : ∃ g o cap, v = .slice (some ⟨g, o, none⟩) l.length cap ∧ l.length ≤ cap ∧ cap ≤ maxLen ∧ g < w.heap.size ∧ ∀ i (h : i < l.length), TuAt w g (o + i * 2) l[i] := by
 obtain ⟨ao, cap, rfl, h1, h2, h3⟩ := h.ex
 rcases h3 with h3 | ⟨g, o, rfl, hg, hc⟩
 ·subst h3; simp at h0
 exact ⟨g, o, cap, rfl, h1, h2, hg, hc⟩
structure Tr2 (w : World) (g cap : Nat) (l : List Tu) : Prop where
 ex : ∃ rest, w.heap[g]? = some (.cells (rowsT l ++ rest).toArray TU (0, 0)) ∧ l.length * 2 + rest.length = cap * 2
 room : l.length ≤ cap
 most : cap ≤ maxLen
theorem Tr2.lt {w : World} {g cap : Nat} {l : List Tu} (h : Tr2 w g cap l) : g < w.heap.size := by
 obtain ⟨r, h, _⟩ := h.ex; exact (Array.getElem?_eq_some_iff.1 h).1
theorem Tr2.keep {w w' : World} {g cap : Nat} {l : List Tu} (h : Tr2 w g cap l) {S : Nat → Prop} (f : Fp S w w') (hS : ¬ S g) : Tr2 w' g cap l := by
 obtain ⟨r, h1, h2⟩ := h.ex; exact ⟨⟨r, f.heap h1 hS, h2⟩, h.room, h.most⟩
theorem Tr2.cell {w : World} {g cap : Nat} {l : List Tu} (h : Tr2 w g cap l) (i j : Nat) (hi : i < l.length) (hj : j < 2) : w.cell? ⟨g, i * 2 + j, none⟩ = (tuC l[i])[j]? := by
 obtain ⟨r, h1, _⟩ := h.ex
 rw [cell_of_row w g _ _ TU (0, 0) h1]
 simp only [List.getElem?_toArray]
 rw [List.getElem?_append_left (by rw [rowsT_len]; omega), rowsT_get l i j hi hj]
theorem Tr2.nd {w : World} {g cap : Nat} {l : List Tu} (h : Tr2 w g cap l) (i : Nat) (hi : i < l.length) : TuAt w g (0 + i * 2) l[i] := by
 rw [Nat.zero_add]
 exact ⟨h.cell i 0 hi (by omega), h.cell i 1 hi (by omega)⟩
theorem Tr2.ns {w : World} {g cap : Nat} {l : List Tu} (h : Tr2 w g cap l) : Ts w (.slice (some ⟨g, 0, none⟩) l.length cap) l :=
 ⟨_, cap, rfl, h.room, h.most, .inr ⟨g, 0, rfl, h.lt, h.nd⟩⟩
theorem Tr2.frozen {w : World} {g cap : Nat} {l : List Tu} (h : Tr2 w g cap l) (o : Nat) : w.frozen? ⟨g, o, none⟩ = false := by
 obtain ⟨r, h1, _⟩ := h.ex; simp [World.frozen?, h1]
theorem Tr2.owns {w : World} {g cap : Nat} {l : List Tu} (h : Tr2 w g cap l) {lo : Nat} (hlo : lo ≤ g) : w.ownsRow lo TU 2 (.slice (some ⟨g, 0, none⟩) l.length cap) l.length (rowsT l) := by
 obtain ⟨r, h1, h2⟩ := h.ex
 refine ⟨rowsT_len l, .inr ⟨g, cap, _, rfl, hlo, h1, h.room, h.most, by simp [rowsT_len]; omega, ?_⟩⟩
 simp only
 rw [← rowsT_len l]; exact List.take_left
theorem Tr2.of_owns {w : World} {lo g cap n : Nat} {l : List Tu} (h : w.ownsRow lo TU 2 (.slice (some ⟨g, 0, none⟩) n cap) n (rowsT l)) (hn : n = l.length) : Tr2 w g cap l ∧ lo ≤ g := by
 subst hn
 rcases h.2 with ⟨h0, _⟩ | ⟨g', cap', cur, e, hb, hg, h1, h2, h3, h4⟩
 ·cases h0
 injection e with e1 _ e3
 injection e1 with e1
 injection e1 with e1
 subst e1 e3
 refine ⟨⟨⟨cur.toList.drop (l.length * 2), ?_, ?_⟩, h1, h2⟩, hb⟩
 ·rw [← h4, List.take_append_drop]; exact hg
 have e : cur.toList.length = cap * 2 := by rw [Array.length_toList, h3]
 rw [List.length_drop, e]; omega
theorem Tryz.infoU : (Tryz.prog.info? TU).map (fun i => (i.zero, i.size, i.bytes)) = some (some (.agg #[.string ⟨#[]⟩, .int .i64 0]), 2, 24) := by kernel_rfl
theorem szU (w : World) : (sizeOf TU).run Tryz.prog w = .ok 2 w := by
 obtain ⟨i, hi, _, hs, _⟩ := info_parts Tryz.infoU
 simp [sizeOf, typeInfo, hi, hs]
theorem run_copy_turns (w : World) (ty : TypeId) (g o dLen dCap : Nat) (a : Addr) (sLen sCap : Nat) (cur : List Value) (m : Nat) (cs : List Value) (hg : w.heap[g]? = some (.cells cur.toArray TU (0, 0))) (hm : m = Nat.min sLen dLen) (hn : cs.length = m * 2)
  (hsrc : ∀ j v, cs[j]? = some v → w.cell? (a.add j) = some v) (hfit : o + cs.length ≤ cur.length) (h1 : ∀ v ∈ cs, v.oneCell' = true) :
  (Builtin.copy_ #[TUL, TUL] ty #[.slice (some ⟨g, o, none⟩) dLen dCap, .slice (some a) sLen sCap]).run Tryz.prog w = .ok (goInt m) (w.setRow g (cur.take o ++ cs ++ cur.drop (o + cs.length)).toArray) := by
 have hl := run_loadCells_list (P := Tryz.prog) w a cs hsrc
 have hst := run_storeCells_at Tryz.prog g o TU cs 0 cur.toArray w hg (by simpa using hfit) h1
 rw [hn] at hl
 simp [Builtin.copy_, run_underlying Tryz.underlying23, Builtin.lenOf, Builtin.firstCells, ← hm, hl, hst]
theorem run_clear_turns (w : World) (ty : TypeId) (g o n c : Nat) (cur : List Value) (hg : w.heap[g]? = some (.cells cur.toArray TU (0, 0))) (hfit : o + n * 2 ≤ cur.length) (h0 : 0 < n) :
  ∃ zs : List Value, zs.length = n * 2 ∧ (Builtin.clear_ #[TUL] ty #[.slice (some ⟨g, o, none⟩) n c]).run Tryz.prog w = .ok (.tuple #[]) (w.setRow g (cur.take o ++ zs ++ cur.drop (o + n * 2)).toArray) := by
 refine ⟨(Builtin.zeroCells #[.string ⟨#[]⟩, .int .i64 0] n).toList, by simp [size_zeroCells], ?_⟩
 have hst := run_storeCells_at Tryz.prog g o TU (Builtin.zeroCells #[.string ⟨#[]⟩, .int .i64 0] n).toList 0 cur.toArray w hg (by simpa [size_zeroCells] using hfit) (by
  intro v hv
  simp only [Builtin.zeroCells, Array.toList_map, List.mem_map, Array.toList_range] at hv
  obtain ⟨i, _, rfl⟩ := hv
  have : i % 2 < 2 := Nat.mod_lt _ (by omega)
  generalize i % 2 = k at this
  match k, this with
  | 0, _ => rfl
  | 1, _ => rfl)
 obtain ⟨m, rfl⟩ : ∃ m, n = m + 1 := ⟨n - 1, by omega⟩
 simp [size_zeroCells] at hst
 simp [Builtin.clear_, run_underlying Tryz.underlying23, Value.cells, hst]
theorem app_turns (w : World) (lo : Nat) (v : Value) (l m : List Tu) (ty : TypeId) (g o n c : Nat) (hv : w.ownsRow lo TU 2 v l.length (rowsT l)) (hn : n = m.length) (hx : ∀ i (h : i < m.length), TuAt w g (o + i * 2) m[i]) (h6 : l.length + m.length ≤ 100000) (hlo : lo ≤ w.heap.size) (h0 : 0 < l.length + m.length) :
  ∃ G cap w', (Builtin.append_ #[TUL, TUL] ty #[v, .slice (some ⟨g, o, none⟩) n c]).run Tryz.prog w = .ok (.slice (some ⟨G, 0, none⟩) (l.length + m.length) cap) w' ∧ Tr2 w' G cap (l ++ m) ∧ lo ≤ G ∧ w.grownBy w' v.ownBlock ∧ (v.ownBlock = some G ∨ w.heap.size ≤ G) := by
 obtain ⟨i, hi, hz, hsz, hby⟩ := info_parts Tryz.infoU
 subst hn
 obtain ⟨v', w', hr, h4, h5, h7, h8⟩ := run_append_own_at (P := Tryz.prog) w lo TUL ty TU i _ 2 24 Tryz.underlying23 hi hz hsz hby rfl (by decide) v l.length (rowsT l) hv ⟨g, o, none⟩ m.length c (rowsT m) (rowsT_len m)
  (fun j u hu => by
   have hj : j < m.length * 2 := by rw [← rowsT_len]; exact (List.getElem?_eq_some_iff.1 hu).1
   have hd : j / 2 < m.length := by omega
   have e : j / 2 * 2 + j % 2 = j := by omega
   rw [← e, rowsT_get m (j / 2) (j % 2) hd (by omega)] at hu
   have := (hx (j / 2) hd).get (j % 2) u hu
   rw [Addr.add_lit] at this ⊢
   rwa [show o + j / 2 * 2 + j % 2 = o + j from by omega] at this)
  (rowsT_one m) (by unfold maxLen; omega) (by omega) hlo
 have hne : v' ≠ .slice none 0 0 := fun e => by
  obtain ⟨e1, e2⟩ := h7.1 e
  subst e1
  rcases hv.2 with ⟨_, h⟩ | ⟨_, _, _, h, _⟩
  ·omega
  cases h
 rcases h4.2 with ⟨h9, _⟩ | ⟨G, cap, cur, rfl, hb, hg, r1, r2, r3, r4⟩
 ·exact absurd h9 hne
 rw [← rowsT_app] at h4
 obtain ⟨h10, h11⟩ := Tr2.of_owns h4 (by rw [List.length_append])
 refine ⟨G, cap, w', hr, h10, h11, h5, ?_⟩
 rcases h8 with h8 | h8
 ·exact .inl h8.symm
 right; simp [Value.ownBlock] at h8; omega
structure CopT (G cap : Nat) (cur : List Value) (w w' : World) : Prop where
 hp : w'.heap[G]? = some (.cells cur.toArray TU (0, 0))
 len : cur.length = cap * 2
 fp : Fp (fun k => k = G) w w'
theorem copyT_at {w : World} {G cap : Nat} {cur : List Value} (hg : w.heap[G]? = some (.cells cur.toArray TU (0, 0))) (hl : cur.length = cap * 2) (ty : TypeId) (o dLen dCap : Nat) (a : Addr) (sLen sCap : Nat) (l : List Tu) (hm : l.length = Nat.min sLen dLen)
  (hsrc : ∀ i (h : i < l.length) j v, (tuC l[i])[j]? = some v → w.cell? (a.add (i * 2 + j)) = some v) (hfit : o + l.length * 2 ≤ cap * 2) :
  ∃ v' w', (Builtin.copy_ #[TUL, TUL] ty #[.slice (some ⟨G, o, none⟩) dLen dCap, .slice (some a) sLen sCap]).run Tryz.prog w = .ok v' w' ∧ CopT G cap (cur.take o ++ rowsT l ++ cur.drop (o + l.length * 2)) w w' := by
 have h := run_copy_turns w ty G o dLen dCap a sLen sCap cur l.length (rowsT l) hg hm (rowsT_len l) (fun j v hv => by
  have hj : j < l.length * 2 := by rw [← rowsT_len]; exact (List.getElem?_eq_some_iff.1 hv).1
  have hd : j / 2 < l.length := by omega
  have e : j / 2 * 2 + j % 2 = j := by omega
  rw [← e, rowsT_get l (j / 2) (j % 2) hd (by omega)] at hv
  have := hsrc (j / 2) hd (j % 2) v hv
  rwa [e] at this) (by rw [rowsT_len, hl]; exact hfit) (rowsT_one l)
 rw [rowsT_len] at h
 refine ⟨_, _, h, setRow_heap w G _ _ TU _ hg, ?_, fp_setRow w G _⟩
 simp only [List.length_append, List.length_take, List.length_drop, rowsT_len, hl]
 omega
theorem Tr2.src {w : World} {G cap : Nat} {l : List Tu} (h : Tr2 w G cap l) (k : Nat) : ∀ i (hi : i < (l.drop k).length) j v, (tuC (l.drop k)[i])[j]? = some v → w.cell? ((⟨G, k * 2, none⟩ : Addr).add (i * 2 + j)) = some v := by
 intro i hi j v hv
 rw [List.length_drop] at hi
 rw [List.getElem_drop] at hv
 have hj : j < 2 := by have := (List.getElem?_eq_some_iff.1 hv).1; simpa [tuC] using this
 rw [Addr.add_lit, show k * 2 + (i * 2 + j) = (k + i) * 2 + j from by omega, h.cell (k + i) j (by omega) hj, hv]
theorem insT_cells (l : List Tu) (k : Nat) (hk : k ≤ l.length) (x : Tu) (cur : List Value) (h1 : cur.take (k * 2) = rowsT (l.take k)) (h2 : (l.length + 1) * 2 ≤ cur.length) :
  ∃ rest, ((cur.take ((k + 1) * 2) ++ rowsT (l.drop k) ++ cur.drop ((k + 1) * 2 + (l.drop k).length * 2)).take (k * 2) ++ rowsT [x] ++ (cur.take ((k + 1) * 2) ++ rowsT (l.drop k) ++ cur.drop ((k + 1) * 2 + (l.drop k).length * 2)).drop (k * 2 + [x].length * 2)) = rowsT (insT l k x) ++ rest ∧
   (l.length + 1) * 2 + rest.length = cur.length := by
 refine ⟨cur.drop ((k + 1) * 2 + (l.drop k).length * 2), ?_, ?_⟩
 ·have e1 : (cur.take ((k + 1) * 2)).length = (k + 1) * 2 := by rw [List.length_take]; omega
  have e2 : (cur.take ((k + 1) * 2) ++ rowsT (l.drop k) ++ cur.drop ((k + 1) * 2 + (l.drop k).length * 2)).take (k * 2) = rowsT (l.take k) := by
   rw [List.append_assoc, List.take_append_of_le_length (by rw [e1]; omega), List.take_take, Nat.min_eq_left (by omega), h1]
  have e3 : (cur.take ((k + 1) * 2) ++ rowsT (l.drop k) ++ cur.drop ((k + 1) * 2 + (l.drop k).length * 2)).drop (k * 2 + [x].length * 2) = rowsT (l.drop k) ++ cur.drop ((k + 1) * 2 + (l.drop k).length * 2) := by
   rw [List.append_assoc, List.drop_append, List.drop_of_length_le (by rw [e1]; simp; omega), e1, show k * 2 + [x].length * 2 - (k + 1) * 2 = 0 from by simp; omega]
   rfl
  rw [e2, e3, insT, rowsT_app]
  simp [rowsT, List.append_assoc]
 simp only [List.length_drop]; omega
set_option maxHeartbeats 4000000 in
theorem InsertT_mid {w : World} {G cap X : Nat} {l : List Tu} {x : Tu} (h : Tr2 w G cap l) (k : Nat) (hk : k < l.length) (hroom : l.length + 1 ≤ cap) (hX : TuAt w X 0 x) (hne : X ≠ G) (hl : l.length ≤ 4000) (hfr : w.heap[X]? = some (.cells (tuC x).toArray TU (0, 0))) :
  Calls Tryz.prog 167 #[.slice (some ⟨G, 0, none⟩) l.length cap, .int .i64 (k : Int), .slice (some ⟨X, 0, none⟩) 1 1] w fun e w' => e = .returned (.slice (some ⟨G, 0, none⟩) (l.length + 1) cap) ∧ Tr2 w' G cap (insT l k x) ∧ Fp (fun j => j = G) w w' := by
 have hm := h.most
 unfold maxLen at hm
 obtain ⟨n, hn⟩ : ∃ n, n = l.length := ⟨_, rfl⟩
 have q1 : ((k : Int) == (n : Int)) = false := beq_eq_false_iff_ne.2 (by omega)
 have q2 : ((cap : Int) < (n : Int) + 1) = False := eq_false (by omega)
 have hkn : k < n := by omega
 have hn6 : n ≤ 4000 := by omega
 have hcn : n + 1 ≤ cap := by omega
 have wk : IntKind.i64.wrap ((k : Int) + 1) = ((k + 1 : Nat) : Int) := by rw [IntKind.wrap_i64]; omega
 have r1 : (cap = k + 1) = False := eq_false (by omega)
 have r2 : (cap = k) = False := eq_false (by omega)
 have r3 : (((k + 1 : Nat) : Int) ≤ (n : Int) + 1) = True := eq_true (by omega)
 have r4 : (k ≤ n) = True := eq_true (by omega)
 have r5 : ((0 : Int) ≤ ((k + 1 : Nat) : Int)) = True := eq_true (by omega)
 have r7 : ((k : Int) ≤ (n : Int) + 1) = True := eq_true (by omega)
 have r6 : ((0 : Int) ≤ (k : Int) + 1) = True := eq_true (by omega)
 have e5 : n + 1 - (k + 1) = n - k := by omega
 obtain ⟨rest, hgr, hrl⟩ := h.ex
 have hd : Tr2 w.drew G cap l := h.keep ((Fp.refl Non w).drew) id
 have hlc : (rowsT l ++ rest).length = cap * 2 := by rw [List.length_append, rowsT_len]; omega
 have hc1 : ∀ ty, ∃ v' w', (Builtin.copy_ #[TUL, TUL] ty #[.slice (some ⟨G, (k + 1) * 2, none⟩) (n - k) (cap - (k + 1)), .slice (some ⟨G, k * 2, none⟩) (n + 1 - k) (cap - k)]).run Tryz.prog w.drew = .ok v' w' ∧ CopT G cap ((rowsT l ++ rest).take ((k + 1) * 2) ++ rowsT (l.drop k) ++ (rowsT l ++ rest).drop ((k + 1) * 2 + (l.drop k).length * 2)) w.drew w' := fun ty =>
  copyT_at (w := w.drew) hgr hlc ty ((k + 1) * 2) (n - k) (cap - (k + 1)) ⟨G, k * 2, none⟩ (n + 1 - k) (cap - k) (l.drop k) (by rw [List.length_drop, ← hn]; simp only [Nat.min_def]; split <;> omega) (hd.src k) (by rw [List.length_drop]; omega)
 have HC1 := Lib.hid hc1
 have HX := Lib.hid (And.intro hX hne)
 have HX2 := Lib.hid (And.intro (show (rowsT l ++ rest).take (k * 2) = rowsT (l.take k) by rw [List.take_append_of_le_length (by rw [rowsT_len]; omega), rowsT_take]) (show (l.length + 1) * 2 ≤ (rowsT l ++ rest).length by rw [hlc]; omega))
 have HX3 := Lib.hid (And.intro hlc h.most)
 have hov : ∀ o lb cb, (callFunc 184 #[.slice (some ⟨X, 0, none⟩) 1 1, .slice (some ⟨G, o, none⟩) lb cb]).run Tryz.prog w = .ok (.value (.bool false)) w := fun o lb cb => by
  obtain ⟨r, hg, hr⟩ := h.ex
  rw [run_callFunc_extern Tryz.func184 (by kernel_rfl) (by kernel_rfl) (by kernel_rfl) (e := Extern.SlicesOverlaps.overlaps #[TUL, TUL] #[4]) (by kernel_rfl),
   Lib.run_overlaps_apart w TUL 4 TU Tryz.underlying23 2 szU ⟨X, 0, none⟩ ⟨G, o, none⟩ 1 1 lb cb hne TU TU 2 (cap * 2) (by simp [World.shape?, hfr, tuC]) (by simp [World.shape?, hg, rowsT_len]; omega) (by omega) (by simp [World.frozen?, hfr]) (by simp [World.frozen?, hfr])]
  rfl
 rw [← hn]
 have HN := Lib.hid hn
 clear hn
 go_enter Tryz.func167, Tryz.ntmps167
 clear h hX hfr hc1 hd hlc hgr hrl
 go_wp2_with (simp only [hov])
 go_region_law ((refine step_copy rfl _ _ TUL TUL rfl (.slice (some ⟨G, (k + 1) * 2, none⟩) (n - k) (cap - (k + 1))) (.slice (some ⟨G, k * 2, none⟩) (n + 1 - k) (cap - k)) (by simp [Act.eval, Act.put]) (by simp [Act.eval, Act.put]) (fun _ w' => CopT G cap _ w.drew w') (HC1.out _) ?_; intro v1 w1 hR1))
 have hX1 : TuAt w1 X 0 x := (HX.out.1.keep ((Fp.refl Non w).drew) id).keep hR1.fp HX.out.2
 have hc2 := fun ty => copyT_at hR1.hp hR1.len ty (k * 2) (n + 1 - k) (cap - k) ⟨X, 0, none⟩ 1 1 [x] (by simp only [Nat.min_def, List.length_cons, List.length_nil]; split <;> omega) (fun i hi j v hv => by
  have hi0 : i = 0 := by simp at hi; omega
  subst hi0
  have := hX1.get j v hv
  rwa [show 0 * 2 + j = j from by omega]) (by simp; omega)
 have HC2 := Lib.hid hc2
 have HF1 := Lib.hid (((Fp.refl Non w).drew.any (S := fun j => j = G)).same hR1.fp)
 clear hR1 hX1 hc2
 go_wp2_with fail
 obtain ⟨v2, w2, hr, hR2⟩ := HC2.out 3
 rw [hr]
 simp only [Result.andThen]
 rw [Oper.upon_value]
 clear hr
 obtain ⟨rest2, he, hl2⟩ := insT_cells l k (by have := HN.out; omega) x (rowsT l ++ rest) HX2.out.1 HX2.out.2
 have hrow : Tr2 w2 G cap (insT l k x) := by
  refine ⟨⟨rest2, ?_, ?_⟩, ?_, HX3.out.2⟩
  ·have := hR2.hp; rw [he] at this; exact this
  ·rw [insT_length]; have := HX3.out.1; omega
  rw [insT_length]; have := HN.out; omega
 have HR := Lib.hid (And.intro hrow (HF1.out.same hR2.fp))
 clear hR2 he hl2 hrow
 go_wp2
 go_ret
 exact ⟨rfl, HR.out.1, HR.out.2⟩
structure InsT (w : World) (G n : Nat) (l : List Tu) (v' : Value) (w' : World) : Prop where
 ex : ∃ G' cap', v' = .slice (some ⟨G', 0, none⟩) n cap' ∧ Tr2 w' G' cap' l ∧ (G' = G ∨ w.heap.size ≤ G') ∧ Fp (fun j => j = G) w w'
set_option maxHeartbeats 2000000 in
theorem InsertT_end {w : World} {G cap X : Nat} {l : List Tu} {x : Tu} (h : Tr2 w G cap l) (hX : TuAt w X 0 x) (hl : l.length ≤ 4000) (h0 : 0 < l.length) :
  Calls Tryz.prog 167 #[.slice (some ⟨G, 0, none⟩) l.length cap, .int .i64 (l.length : Int), .slice (some ⟨X, 0, none⟩) 1 1] w fun e w' => ∃ v', e = .returned v' ∧ InsT w G (l.length + 1) (l ++ [x]) v' w' := by
 have hap : ∀ ty, ∃ v' w', (Builtin.append_ #[TUL, TUL] ty #[.slice (some ⟨G, 0, none⟩) l.length cap, .slice (some ⟨X, 0, none⟩) 1 1]).run Tryz.prog w = .ok v' w' ∧ InsT w G (l.length + 1) (l ++ [x]) v' w' := fun ty => by
  obtain ⟨G', cap', w', hr, h1, _, h2, h3⟩ := app_turns w 0 _ l [x] ty X 0 1 1 (h.owns (Nat.zero_le _)) rfl (fun i hi => by
   have hi0 : i = 0 := by simp at hi; omega
   subst hi0; exact hX) (by simp; omega) (Nat.zero_le _) (by omega)
  refine ⟨_, w', hr, ⟨G', cap', rfl, h1, ?_, (Fp.refl _ w).grown h2 (fun k hk => .inl (by simp [Value.ownBlock] at hk; exact hk.symm))⟩⟩
  rcases h3 with h3 | h3
  ·left; simp [Value.ownBlock] at h3; exact h3.symm
  exact .inr h3
 have hm := h.most
 have hr := h.room
 unfold maxLen at hm
 generalize l.length = n at *
 have HA := Lib.hid hap
 have hn1 : (0 : Int) ≤ (n : Int) := by omega
 clear hap h hX
 go_enter Tryz.func167, Tryz.ntmps167
 go_wp2_with (at_builtin; go_must (refine wpList_app rfl _ _ _ _ rfl _ _ rfl rfl (InsT w G (n + 1) (l ++ [x])) (HA.out TUL) ?_))
 all_goals
  intro v2 w2 hR2
  have HR := Lib.hid hR2
  obtain ⟨G', cap', rfl, _⟩ := hR2.ex
  clear hR2
  go_wp2
  go_ret
  exact ⟨_, rfl, HR.out⟩
structure ZerT (w : World) (n gc : Nat) (W1 : World) (v' : Value) (w' : World) : Prop where
 v : v' = .slice (some ⟨w.heap.size, 0, none⟩) (n + 1) gc
 w : w' = W1
theorem zerT {w W1 : World} {n gc k G cap : Nat} {ty : TypeId} (h : ∀ ty, (Builtin.append_ #[TUL, 3] ty #[.slice (some ⟨G, 0, none⟩) k cap, .int .i64 ((n + 1 - k : Nat) : Int)]).run Tryz.prog w = .ok (.slice (some ⟨w.heap.size, 0, none⟩) (n + 1) gc) W1) :
  ∃ v' w', (Builtin.append_ #[TUL, 3] ty #[.slice (some ⟨G, 0, none⟩) k cap, .int .i64 ((n + 1 - k : Nat) : Int)]).run Tryz.prog w = .ok v' w' ∧ ZerT w n gc W1 v' w' := ⟨_, _, h ty, rfl, rfl⟩
theorem growT_cells (l : List Tu) (k : Nat) (hk : k ≤ l.length) (x : Tu) (cur : List Value) (h1 : cur.take (k * 2) = rowsT (l.take k)) (h2 : (l.length + 1) * 2 ≤ cur.length) :
  ∃ rest, ((cur.take (k * 2) ++ rowsT [x] ++ cur.drop (k * 2 + [x].length * 2)).take ((k + 1) * 2) ++ rowsT (l.drop k) ++ (cur.take (k * 2) ++ rowsT [x] ++ cur.drop (k * 2 + [x].length * 2)).drop ((k + 1) * 2 + (l.drop k).length * 2)) = rowsT (insT l k x) ++ rest ∧
   (l.length + 1) * 2 + rest.length = cur.length := by
 have e0 : (rowsT (l.take k) ++ rowsT [x]).length = (k + 1) * 2 := by rw [List.length_append, rowsT_len, rowsT_len, List.length_take]; simp; omega
 refine ⟨(cur.take (k * 2) ++ rowsT [x] ++ cur.drop (k * 2 + [x].length * 2)).drop ((k + 1) * 2 + (l.drop k).length * 2), ?_, ?_⟩
 ·rw [h1]
  rw [List.take_append_of_le_length (by rw [e0]; omega), List.take_of_length_le (by rw [e0]; omega)]
  congr 1
  rw [insT, rowsT_app]
  simp [rowsT, List.append_assoc]
 rw [h1, List.length_drop, List.length_append, e0, List.length_drop, List.length_drop]
 simp; omega
set_option maxHeartbeats 4000000 in
theorem InsertT_grow {w : World} {G cap X : Nat} {l : List Tu} {x : Tu} (h : Tr2 w G cap l) (k : Nat) (hk : k < l.length) (hroom : cap < l.length + 1) (hX : TuAt w X 0 x) (hl : l.length ≤ 4000) :
  Calls Tryz.prog 167 #[.slice (some ⟨G, 0, none⟩) l.length cap, .int .i64 (k : Int), .slice (some ⟨X, 0, none⟩) 1 1] w fun e w' => ∃ v', e = .returned v' ∧ InsT w G (l.length + 1) (insT l k x) v' w' := by
 have hm := h.most
 have hcr := h.room
 unfold maxLen at hm
 obtain ⟨n, hn⟩ : ∃ n, n = l.length := ⟨_, rfl⟩
 obtain ⟨i0, hi0, hz0, hzs, hzb⟩ := info_parts Tryz.infoU
 have hold : (Builtin.firstCells i0.size k (.slice (some ⟨G, 0, none⟩) k cap)).run Tryz.prog w.drew = .ok (rowsT (l.take k)).toArray w.drew := by
  rw [hzs]
  refine run_firstCells_some w.drew 2 k ⟨G, 0, none⟩ k cap (rowsT (l.take k)) (by rw [rowsT_len, List.length_take]; omega) (fun j v hj => ?_)
  have hj2 : j < k * 2 := by have := (List.getElem?_eq_some_iff.1 hj).1; rw [rowsT_len, List.length_take] at this; omega
  have hd : j / 2 < (l.take k).length := by rw [List.length_take]; omega
  have e : j / 2 * 2 + j % 2 = j := by omega
  rw [← e, rowsT_get _ (j / 2) (j % 2) hd (by omega), List.getElem_take] at hj
  have := h.cell (j / 2) (j % 2) (by omega) (by omega)
  rw [e, hj] at this
  rw [Addr.add_lit, Nat.zero_add]
  exact this
 have hrz : ∀ ty, _ := fun ty => Lib.run_append_grow_zeros w TUL 3 ty TU i0 _ .i64 .i64 Tryz.underlying23 Tryz.underlying3 hi0 hz0 (some ⟨G, 0, none⟩) k cap (rowsT (l.take k)) hold (n + 1 - k) (by omega) (by omega) (by omega) (by omega) (by rw [hzb]; omega) (by rw [hzb]; exact growslice_fits (by omega) (by omega))
 rw [show k + (n + 1 - k) = n + 1 from by omega] at hrz
 obtain ⟨gc, hgc⟩ : ∃ gc, gc = grownCap w (n + 1) cap TU := ⟨_, rfl⟩
 have hgl : n + 1 ≤ gc := by rw [hgc]; exact grownCap_ge w (n + 1) cap TU
 have hgm : gc ≤ maxLen := by rw [hgc]; exact grownCap_le_maxLen w (n + 1) cap TU (by unfold maxLen; omega)
 rw [← hgc] at hrz
 obtain ⟨cur, hcur⟩ : ∃ cur : List Value, cur = ((rowsT (l.take k)).toArray ++ Builtin.zeroCells (Value.cells (.agg #[.string ⟨#[]⟩, .int .i64 0])) (n + 1 - k) ++ Builtin.zeroCells (Value.cells (.agg #[.string ⟨#[]⟩, .int .i64 0])) (gc - (n + 1))).toList := ⟨_, rfl⟩
 have hcl : cur.length = gc * 2 := by
  rw [hcur, Array.length_toList, Array.size_append, Array.size_append, size_zeroCells, size_zeroCells, List.size_toArray, rowsT_len, List.length_take]
  show min k l.length * 2 + (n + 1 - k) * 2 + (gc - (n + 1)) * 2 = gc * 2
  omega
 have hct : cur.take (k * 2) = rowsT (l.take k) := by
  rw [hcur, Array.toList_append, Array.toList_append, List.append_assoc, List.take_append_of_le_length (by simp [rowsT_len]; omega), List.take_of_length_le (by simp [rowsT_len]; omega)]
 obtain ⟨W1, hW1⟩ : ∃ W1, W1 = w.drew.alloc (.cells cur.toArray TU) := ⟨_, rfl⟩
 have hrz2 : ∀ ty, (Builtin.append_ #[TUL, 3] ty #[.slice (some ⟨G, 0, none⟩) k cap, .int .i64 ((n + 1 - k : Nat) : Int)]).run Tryz.prog w = .ok (.slice (some ⟨w.heap.size, 0, none⟩) (n + 1) gc) W1 := fun ty => by
  rw [hW1, hcur]; exact hrz ty
 have hf1 : Fp Non w W1 := by rw [hW1]; exact ((Fp.refl Non w).drew).alloc _
 have hg1 : W1.heap[w.heap.size]? = some (.cells cur.toArray TU (0, 0)) := by rw [hW1]; exact heap_alloc_new w.drew _
 have hX1 := hX.keep hf1 id
 have h1 := h.keep hf1 id
 have hGlt := h.lt
 have hc1 : ∀ ty, ∃ v' w', (Builtin.copy_ #[TUL, TUL] ty #[.slice (some ⟨w.heap.size, k * 2, none⟩) (n + 1 - k) (gc - k), .slice (some ⟨X, 0, none⟩) 1 1]).run Tryz.prog W1 = .ok v' w' ∧ CopT w.heap.size gc (cur.take (k * 2) ++ rowsT [x] ++ cur.drop (k * 2 + [x].length * 2)) W1 w' := fun ty =>
  copyT_at hg1 hcl ty (k * 2) (n + 1 - k) (gc - k) ⟨X, 0, none⟩ 1 1 [x] (by simp only [Nat.min_def, List.length_cons, List.length_nil]; split <;> omega) (fun i hi j v hv => by
   have hi0 : i = 0 := by simp at hi; omega
   subst hi0
   have := hX1.get j v hv
   rwa [show 0 * 2 + j = j from by omega]) (by simp; omega)
 have q1 : ((k : Int) == (n : Int)) = false := beq_eq_false_iff_ne.2 (by omega)
 have q2 : ((cap : Int) < (n : Int) + 1) = True := eq_true (by omega)
 have hkn : k < n := by omega
 have hn6 : n ≤ 4000 := by omega
 have hcn : cap = n := by omega
 have wk : IntKind.i64.wrap ((k : Int) + 1) = ((k + 1 : Nat) : Int) := by rw [IntKind.wrap_i64]; omega
 have wn : (n : Int) + 1 - (k : Int) = ((n + 1 - k : Nat) : Int) := by omega
 have r1 : (gc = k + 1) = False := eq_false (by omega)
 have r2 : (gc = k) = False := eq_false (by omega)
 have r8 : (cap = k) = False := eq_false (by omega)
 have r3 : (((k + 1 : Nat) : Int) ≤ (n : Int) + 1) = True := eq_true (by omega)
 have r4 : (k ≤ n) = True := eq_true (by omega)
 have r5 : ((0 : Int) ≤ ((k + 1 : Nat) : Int)) = True := eq_true (by omega)
 have r7 : ((k : Int) ≤ (n : Int) + 1) = True := eq_true (by omega)
 have r6 : ((0 : Int) ≤ (k : Int) + 1) = True := eq_true (by omega)
 have r9 : (k ≤ cap) = True := eq_true (by omega)
 have r10 : ((k : Int) ≤ (cap : Int)) = True := eq_true (by omega)
 have e5 : n + 1 - (k + 1) = n - k := by omega
 rw [← hn]
 have HZ := Lib.hid hrz2
 have HC1 := Lib.hid hc1
 have HX := Lib.hid (And.intro hn (And.intro h1 (And.intro hcl (And.intro hct (And.intro hgm (And.intro hgl (And.intro hf1 hGlt)))))))
 unfold maxLen at hgm
 clear hrz2 hc1 hrz hold hn h1 hX1 hg1 hf1 hW1 hcl hct hcur hgc hX h hGlt hcn hk hroom hl hcr hi0 hz0 hzs hzb
 go_enter Tryz.func167, Tryz.ntmps167
 go_wp2_with (at_builtin; go_must (refine wpList_app rfl _ _ _ _ rfl _ _ rfl rfl (fun v' w' => ZerT w n gc W1 v' w') (zerT HZ.out) ?_))
 intro v2 w2 hR2
 obtain ⟨rfl, rfl⟩ := hR2
 go_wp2_with fail
 obtain ⟨v3, w3, hr, hR3⟩ := HC1.out 3
 rw [hr]
 simp only [Result.andThen]
 rw [Oper.upon_value]
 clear hr
 have h3 : Tr2 w3 G cap l := HX.out.2.1.keep hR3.fp (fun e => by have := HX.out.2.2.2.2.2.2.2; omega)
 have hd3 : Tr2 w3.drew G cap l := h3.keep ((Fp.refl Non w3).drew) id
 have hl3 := HX.out.1
 have hc2 : ∀ ty, ∃ v' w', (Builtin.copy_ #[TUL, TUL] ty #[.slice (some ⟨w.heap.size, (k + 1) * 2, none⟩) (n - k) (gc - (k + 1)), .slice (some ⟨G, k * 2, none⟩) (n - k) (cap - k)]).run Tryz.prog w3.drew = .ok v' w' ∧ CopT w.heap.size gc _ w3.drew w' := fun ty =>
  copyT_at (w := w3.drew) hR3.hp hR3.len ty ((k + 1) * 2) (n - k) (gc - (k + 1)) ⟨G, k * 2, none⟩ (n - k) (cap - k) (l.drop k) (by rw [List.length_drop, ← hl3]; simp only [Nat.min_def]; split <;> omega) (hd3.src k) (by rw [List.length_drop]; omega)
 have HC2 := Lib.hid hc2
 have HF3 := Lib.hid hR3.fp
 clear hR3 h3 hd3 hl3 hc2
 go_wp2_with fail
 go_region_law ((refine step_copy rfl _ _ TUL TUL rfl (.slice (some ⟨w.heap.size, (k + 1) * 2, none⟩) (n - k) (gc - (k + 1))) (.slice (some ⟨G, k * 2, none⟩) (n - k) (cap - k)) (by simp [Act.eval, Act.put]) (by simp [Act.eval, Act.put]) (fun _ w' => CopT w.heap.size gc _ w3.drew w') (HC2.out _) ?_; intro v4 w4 hR4))
 obtain ⟨rest2, he, hl2⟩ := growT_cells l k (by have := HX.out.1; omega) x cur HX.out.2.2.2.1 (by have h1 := HX.out.1; have h2 := HX.out.2.2.1; have h3 := HX.out.2.2.2.2.2.1; omega)
 have hrow : Tr2 w4 w.heap.size gc (insT l k x) := by
  refine ⟨⟨rest2, ?_, ?_⟩, ?_, HX.out.2.2.2.2.1⟩
  ·have := hR4.hp; rw [he] at this; exact this
  ·rw [insT_length]; have := HX.out.2.2.1; omega
  rw [insT_length]; have h1 := HX.out.1; have h3 := HX.out.2.2.2.2.2.1; omega
 have hfp : Fp (fun j => j = G) w w4 := (((HX.out.2.2.2.2.2.2.1.any (S := fun j => j = G)).trans HF3.out (fun k hk => .inr (by rw [hk]; exact Nat.le_refl _))).trans (((Fp.refl Non w3).drew.any (S := fun j => j = w.heap.size)).same hR4.fp) (fun k hk => .inr (by rw [hk]; exact Nat.le_refl _)))
 have HR := Lib.hid (And.intro hrow hfp)
 clear hR4 he hl2 hrow hfp
 go_wp2
 go_ret
 exact ⟨_, rfl, ⟨w.heap.size, gc, rfl, HR.out.1, .inr (Nat.le_refl _), HR.out.2⟩⟩
theorem InsertT_c {w : World} {G cap X : Nat} {l : List Tu} {x : Tu} (h : Tr2 w G cap l) (k : Nat) (hk : k ≤ l.length) (hX : w.heap[X]? = some (.cells (tuC x).toArray TU (0, 0))) (hne : X ≠ G) (hl : l.length ≤ 4000) (h0 : 0 < l.length) :
  Calls Tryz.prog 167 #[.slice (some ⟨G, 0, none⟩) l.length cap, .int .i64 (k : Int), .slice (some ⟨X, 0, none⟩) 1 1] w fun e w' => ∃ v', e = .returned v' ∧ InsT w G (l.length + 1) (insT l k x) v' w' := by
 have hnd : TuAt w X 0 x := ⟨by rw [cell_of_row _ _ _ _ _ _ hX]; rfl, by rw [cell_of_row _ _ _ _ _ _ hX]; rfl⟩
 by_cases hkl : k < l.length
 ·by_cases hr : l.length + 1 ≤ cap
  ·refine (InsertT_mid h k hkl hr hnd hne hl hX).mono ?_
   rintro e w' ⟨rfl, h1, h2⟩
   exact ⟨_, rfl, ⟨G, cap, rfl, h1, .inl rfl, h2⟩⟩
  exact InsertT_grow h k hkl (by omega) hnd hl
 obtain rfl : k = l.length := by omega
 have e : insT l l.length x = l ++ [x] := by unfold insT; simp
 rw [e]
 exact InsertT_end h hnd hl h0
structure DelT (w : World) (G cap n : Nat) (l : List Tu) (v' : Value) (w' : World) : Prop where
 v : v' = .slice (some ⟨G, 0, none⟩) n cap
 row : Tr2 w' G cap l
 fp : Fp (fun j => j = G) w w'
theorem appT_in {w : World} {G cap : Nat} {l m : List Tu} (h : Tr2 w G cap l) (k : Nat) (ty : TypeId) (a : Addr) (c : Nat) (hk : k + m.length ≤ l.length) (hm : ∀ i (h : i < m.length) j v, (tuC m[i])[j]? = some v → w.cell? (a.add (i * 2 + j)) = some v) :
  ∃ v' w', (Builtin.append_ #[TUL, TUL] ty #[.slice (some ⟨G, 0, none⟩) k cap, .slice (some a) m.length c]).run Tryz.prog w = .ok v' w' ∧ DelT w G cap (k + m.length) (l.take k ++ m) v' w' := by
 obtain ⟨i, hi, _, hs, _⟩ := info_parts Tryz.infoU
 obtain ⟨rest, hg, hrl⟩ := h.ex
 have hlc : (rowsT l ++ rest).length = cap * 2 := by rw [List.length_append, rowsT_len]; omega
 have hroom := h.room
 have hr := run_append_room (P := Tryz.prog) w TUL ty TU i Tryz.underlying23 hi G k cap (rowsT l ++ rest).toArray hg a m.length c (rowsT m) (by rw [rowsT_len, hs]) (fun j v hv => by
  have hj : j < m.length * 2 := by rw [← rowsT_len]; exact (List.getElem?_eq_some_iff.1 hv).1
  have hd : j / 2 < m.length := by omega
  have e : j / 2 * 2 + j % 2 = j := by omega
  rw [← e, rowsT_get m (j / 2) (j % 2) hd (by omega)] at hv
  have := hm (j / 2) hd (j % 2) v hv
  rwa [e] at this) (rowsT_one m) (by omega) (by rw [hs, rowsT_len, List.size_toArray, hlc]; omega)
 refine ⟨_, _, hr, rfl, ⟨⟨(rowsT l ++ rest).drop (k * 2 + (rowsT m).length), ?_, ?_⟩, ?_, h.most⟩, fp_setRow w G _⟩
 ·have := setRow_heap w G _ (((rowsT l ++ rest).take (k * i.size)) ++ rowsT m ++ (rowsT l ++ rest).drop (k * i.size + (rowsT m).length)).toArray TU _ hg
  rw [hs] at this
  rw [hs]
  rw [this]
  congr 2
  rw [rowsT_app, List.take_append_of_le_length (by rw [rowsT_len]; omega), rowsT_take]
 ·rw [List.length_drop, hlc, rowsT_len, List.length_append, List.length_take]; omega
 rw [List.length_append, List.length_take]; omega
theorem clearT_in {w : World} {G cap : Nat} {l : List Tu} (h : Tr2 w G cap l) (ty : TypeId) (n c : Nat) (h0 : 0 < n) (hn : l.length + n ≤ cap) :
  ∃ w', (Builtin.clear_ #[TUL] ty #[.slice (some ⟨G, l.length * 2, none⟩) n c]).run Tryz.prog w = .ok (.tuple #[]) w' ∧ Tr2 w' G cap l ∧ Fp (fun j => j = G) w w' := by
 obtain ⟨rest, hg, hrl⟩ := h.ex
 have hlc : (rowsT l ++ rest).length = cap * 2 := by rw [List.length_append, rowsT_len]; omega
 obtain ⟨zs, hz, hr⟩ := run_clear_turns w ty G (l.length * 2) n c (rowsT l ++ rest) hg (by rw [hlc]; omega) h0
 refine ⟨_, hr, ⟨⟨zs ++ (rowsT l ++ rest).drop (l.length * 2 + n * 2), ?_, ?_⟩, h.room, h.most⟩, fp_setRow w G _⟩
 ·rw [setRow_heap w G _ _ TU _ hg]
  congr 2
  rw [← rowsT_len l, List.take_left, List.append_assoc]
 rw [List.length_append, List.length_drop, hz, hlc]; omega
set_option maxHeartbeats 4000000 in
theorem DeleteT_c {w : World} {G cap : Nat} {l : List Tu} (h : Tr2 w G cap l) (k : Nat) (hk : k < l.length) (hl : l.length ≤ 4000) :
  Calls Tryz.prog 166 #[.slice (some ⟨G, 0, none⟩) l.length cap, .int .i64 (k : Int), .int .i64 ((k : Int) + 1)] w fun e w' => e = .returned (.slice (some ⟨G, 0, none⟩) (l.length - 1) cap) ∧ Tr2 w' G cap (l.eraseIdx k) ∧ Fp (fun j => j = G) w w' := by
 have hm := h.most
 have hcr := h.room
 unfold maxLen at hm
 obtain ⟨n, hn⟩ : ∃ n, n = l.length := ⟨_, rfl⟩
 have hdd : Tr2 w.drew G cap l := h.keep ((Fp.refl Non w).drew) id
 have he : l.take k ++ l.drop (k + 1) = l.eraseIdx k := (List.eraseIdx_eq_take_drop_succ ..).symm
 obtain ⟨a, ha⟩ : ∃ a : Addr, a = (if cap = k + 1 then ⟨G, 0, none⟩ else ⟨G, (k + 1) * 2, none⟩) := ⟨_, rfl⟩
 have hap : ∀ ty c, ∃ v' w', (Builtin.append_ #[TUL, TUL] ty #[.slice (some ⟨G, 0, none⟩) k cap, .slice (some a) (n - (k + 1)) c]).run Tryz.prog w.drew = .ok v' w' ∧ DelT w.drew G cap (n - 1) (l.eraseIdx k) v' w' := fun ty c => by
  have := appT_in (m := l.drop (k + 1)) hdd k ty a c (by rw [List.length_drop]; omega) (fun i hi j v hv => by
   rw [List.length_drop] at hi
   rw [ha, if_neg (by omega)]
   exact hdd.src (k + 1) i (by rw [List.length_drop]; omega) j v hv)
  rw [he, List.length_drop, ← hn, show k + (n - (k + 1)) = n - 1 from by omega] at this
  exact this
 have hel : (l.eraseIdx k).length = n - 1 := by rw [List.length_eraseIdx, if_pos hk, hn]
 have q1 : ((k : Int) == (k : Int) + 1) = false := beq_eq_false_iff_ne.2 (by omega)
 have hkn : k < n := by omega
 have hn6 : n ≤ 4000 := by omega
 have hcn : n ≤ cap := by omega
 have r1 : (k ≤ cap) = True := eq_true (by omega)
 have r2 : ((k : Int) ≤ (cap : Int)) = True := eq_true (by omega)
 have r3 : ((0 : Int) ≤ (k : Int) + 1) = True := eq_true (by omega)
 have r4 : ((k : Int) + 1 ≤ (n : Int)) = True := eq_true (by omega)
 have r5 : ((k : Int) + 1).toNat = k + 1 := by omega
 have r7 : (n - 1 ≤ n) = True := eq_true (by omega)
 have r8 : (cap = n - 1) = False := eq_false (by omega)
 have r10 : (n ≤ cap) = True := eq_true hcn
 have r11 : (((n - 1 : Nat) : Int) ≤ (n : Int)) = True := eq_true (by omega)
 have r12 : n - (n - 1) = 1 := by omega
 rw [← hn]
 have HX := Lib.hid (And.intro hn (And.intro hel (And.intro hcn hkn)))
 by_cases hc : cap = k + 1
 ·have r6 : (cap = k + 1) = True := eq_true hc
  rw [if_pos hc] at ha
  subst ha
  have HA := Lib.hid hap
  clear hap hdd he h hn hk hl hcr hel hc
  go_enter Tryz.func166, Tryz.ntmps166
  go_wp2_with fail
  go_region_law ((refine step_app rfl _ _ TUL TUL rfl (.slice (some ⟨G, 0, none⟩) k cap) (.slice (some ⟨G, 0, none⟩) (n - (k + 1)) (cap - (k + 1))) (by simp [Act.eval, Act.put]) (by simp [Act.eval, Act.put]) (DelT w.drew G cap (n - 1) (l.eraseIdx k)) (HA.out _ _) ?_; intro v4 w4 hR4))
  obtain rfl := hR4.v
  have hcl := clearT_in hR4.row 0 1 (cap - (n - 1)) (by omega) (by have := HX.out; omega)
  rw [HX.out.2.1] at hcl
  have HCL := Lib.hid hcl
  have HF := Lib.hid (((Fp.refl Non w).drew.any (S := fun j => j = G)).same hR4.fp)
  clear hR4 hcl
  go_wp2_with fail
  obtain ⟨w5, hr, hrow, hf5⟩ := HCL.out
  rw [hr]
  simp only [Result.andThen]
  rw [Oper.upon_value]
  have HR := Lib.hid (And.intro hrow (HF.out.same hf5))
  clear hr hrow hf5
  go_wp2
  go_ret
  exact ⟨rfl, HR.out.1, HR.out.2⟩
 have r6 : (cap = k + 1) = False := eq_false hc
 rw [if_neg hc] at ha
 subst ha
 have HA := Lib.hid hap
 clear hap hdd he h hn hk hl hcr hel hc
 go_enter Tryz.func166, Tryz.ntmps166
 go_wp2_with fail
 go_region_law ((refine step_app rfl _ _ TUL TUL rfl (.slice (some ⟨G, 0, none⟩) k cap) (.slice (some ⟨G, (k + 1) * 2, none⟩) (n - (k + 1)) (cap - (k + 1))) (by simp [Act.eval, Act.put]) (by simp [Act.eval, Act.put]) (DelT w.drew G cap (n - 1) (l.eraseIdx k)) (HA.out _ _) ?_; intro v4 w4 hR4))
 obtain rfl := hR4.v
 have hcl := clearT_in hR4.row 0 1 (cap - (n - 1)) (by omega) (by have := HX.out; omega)
 rw [HX.out.2.1] at hcl
 have HCL := Lib.hid hcl
 have HF := Lib.hid (((Fp.refl Non w).drew.any (S := fun j => j = G)).same hR4.fp)
 clear hR4 hcl
 go_wp2_with fail
 obtain ⟨w5, hr, hrow, hf5⟩ := HCL.out
 rw [hr]
 simp only [Result.andThen]
 rw [Oper.upon_value]
 have HR := Lib.hid (And.intro hrow (HF.out.same hf5))
 clear hr hrow hf5
 go_wp2
 go_ret
 exact ⟨rfl, HR.out.1, HR.out.2⟩
end Go.Proofs.YtphoglepiegeiaaGreatDoor
