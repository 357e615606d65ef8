/- Rows of api.Event: slices of them, rows of the call's own; slices.Clone (gen_rows.py) -/
import Derived.Test.YtjdpbieifcjmiaaYb
namespace Go.Proofs.Ytjdpbieifcjmiaa
set_option maxRecDepth 20000
set_option linter.unusedVariables false
set_option linter.unusedSimpArgs false
open Go.RowKit Pm

abbrev TE : TypeId := 46
abbrev TLE : TypeId := 38
/-- A node's cells. -/
def evC (n : Ev) : List Value := [.int .i64 n.num, .int .i64 n.kind, strV n.p, .int .i64 n.wt]
def evV (n : Ev) : Value := .agg #[.int .i64 n.num, .int .i64 n.kind, strV n.p, .int .i64 n.wt]
def rowsE (l : List Ev) : List Value := l.flatMap evC
theorem evC_len (n : Ev) : (evC n).length = 4 := rfl
theorem evV_cells (n : Ev) : (evV n).cells = (evC n).toArray := rfl
theorem rowsE_nil : rowsE [] = [] := rfl
theorem rowsE_cons (n : Ev) (l : List Ev) : rowsE (n :: l) = evC n ++ rowsE l := by simp [rowsE]
theorem rowsE_app (a b : List Ev) : rowsE (a ++ b) = rowsE a ++ rowsE b := by simp [rowsE]
theorem rowsE_len (l : List Ev) : (rowsE l).length = l.length * 4 := by
  induction l with
  | nil => rfl
  | cons n l ih => rw [rowsE_cons, List.length_append, evC_len, ih, List.length_cons]; omega
theorem rowsE_get (l : List Ev) (i j : Nat) (hi : i < l.length) (hj : j < 4) : (rowsE l)[i * 4 + j]? = (evC l[i])[j]? := by
  induction l generalizing i with
  | nil => simp at hi
  | cons n l ih =>
    rw [rowsE_cons]
    cases i with
    | zero => rw [List.getElem?_append_left (by rw [evC_len]; omega)]; simp
    | succ i =>
      rw [List.getElem?_append_right (by rw [evC_len]; omega), evC_len, show (i + 1) * 4 + j - 4 = i * 4 + j from by omega, ih i (by simpa using hi)]
      simp
theorem rowsE_one (l : List Ev) : ∀ u ∈ rowsE l, u.oneCell' = true := by
  intro u hu
  unfold rowsE at hu
  rw [List.mem_flatMap] at hu
  obtain ⟨n, _, hu⟩ := hu
  simp only [evC, List.mem_cons, List.not_mem_nil, or_false] at hu
  rcases hu with rfl | rfl | rfl | rfl <;> rfl
theorem rowsE_take (l : List Ev) (k : Nat) : (rowsE l).take (k * 4) = rowsE (l.take k) := by
  induction l generalizing k with
  | nil => simp [rowsE]
  | cons n l ih =>
    cases k with
    | zero => simp [rowsE]
    | succ k => rw [List.take_succ_cons, rowsE_cons, rowsE_cons, ← ih, List.take_append, evC_len, List.take_of_length_le (by rw [evC_len]; omega), show (k + 1) * 4 - 4 = k * 4 from by omega]
theorem rowsE_drop (l : List Ev) (k : Nat) : (rowsE l).drop (k * 4) = rowsE (l.drop k) := by
  induction l generalizing k with
  | nil => simp [rowsE]
  | cons n l ih =>
    cases k with
    | zero => simp [rowsE]
    | succ k => rw [List.drop_succ_cons, rowsE_cons, ← ih, List.drop_append, evC_len, List.drop_of_length_le (by rw [evC_len]; omega), show (k + 1) * 4 - 4 = k * 4 from by omega]; rfl

/-- A node at a place. -/
structure NdAtE (w : World) (g o : Nat) (n : Ev) : Prop where
  c0 : w.cell? ⟨g, o, none⟩ = some (.int .i64 n.num)
  c1 : w.cell? ⟨g, o + 1, none⟩ = some (.int .i64 n.kind)
  c2 : w.cell? ⟨g, o + 2, none⟩ = some (strV n.p)
  c3 : w.cell? ⟨g, o + 3, none⟩ = some (.int .i64 n.wt)
theorem NdAtE.keep {w w' : World} {g o : Nat} {n : Ev} (h : NdAtE w g o n) {S : Nat → Prop} (f : Fp S w w') (hS : ¬ S g) : NdAtE w' g o n :=
  ⟨f.cell h.c0 hS, f.cell h.c1 hS, f.cell h.c2 hS, f.cell h.c3 hS⟩
theorem NdAtE.get {w : World} {g o : Nat} {n : Ev} (h : NdAtE w g o n) : ∀ j v, (evC n)[j]? = some v → w.cell? ((⟨g, o, none⟩ : Addr).add j) = some v := by
  intro j v hv
  rw [Addr.add_lit]
  match j, hv with
  | 0, hv => rw [← Option.some.inj hv]; exact h.c0
  | 1, hv => rw [← Option.some.inj hv]; exact h.c1
  | 2, hv => rw [← Option.some.inj hv]; exact h.c2
  | 3, hv => rw [← Option.some.inj hv]; exact h.c3
  | j + 4, hv => simp [evC] at hv

/-- A slice that reads as nodes. -/
structure NsE (w : World) (v : Value) (l : List Ev) : Prop where
  ex : ∃ ao cap, v = .slice ao l.length cap ∧ l.length ≤ cap ∧ cap ≤ maxLen ∧ (l = [] ∨ ∃ g o, ao = some ⟨g, o, none⟩ ∧ g < w.heap.size ∧ ∀ i (h : i < l.length), NdAtE w g (o + i * 4) l[i])
theorem NsE.keep {w w' : World} {v : Value} {l : List Ev} (h : NsE w v l) {S : Nat → Prop} (f : Fp S w w') (hS : ∀ k, v.ownBlock = some k → ¬ S k) : NsE w' v l := by
  obtain ⟨ao, cap, rfl, h1, h2, h3⟩ := h.ex
  refine ⟨ao, cap, rfl, h1, h2, ?_⟩
  rcases h3 with h3 | ⟨g, o, rfl, hg, hc⟩
  · exact .inl h3
  · exact .inr ⟨g, o, rfl, Nat.lt_of_lt_of_le hg f.size, fun i hi => (hc i hi).keep f (hS g rfl)⟩
theorem NsE.non {w w' : World} {v : Value} {l : List Ev} (h : NsE w v l) (f : Fp Non w w') : NsE w' v l := h.keep f (fun _ _ h => h)
theorem NsE.nil (w : World) : NsE w (.slice none 0 0) [] := ⟨none, 0, rfl, Nat.le_refl _, Nat.zero_le _, .inl rfl⟩
theorem NsE.shape {w : World} {v : Value} {l : List Ev} (h : NsE w v l) : ∃ ao cap, v = .slice ao l.length cap := by
  obtain ⟨ao, cap, rfl, _⟩ := h.ex; exact ⟨ao, cap, rfl⟩
theorem NsE.at {w : World} {v : Value} {l : List Ev} (h : NsE w v l) (h0 : 0 < l.length) : ∃ g o cap, v = .slice (some ⟨g, o, none⟩) l.length cap ∧ l.length ≤ cap ∧ cap ≤ maxLen ∧ g < w.heap.size ∧ ∀ i (h : i < l.length), NdAtE w g (o + i * 4) l[i] := by
  obtain ⟨ao, cap, rfl, h1, h2, h3⟩ := h.ex
  rcases h3 with h3 | ⟨g, o, rfl, hg, hc⟩
  · subst h3; simp at h0
  · exact ⟨g, o, cap, rfl, h1, h2, hg, hc⟩
theorem NsE.take {w : World} {g o n cap : Nat} {l : List Ev} (h : NsE w (.slice (some ⟨g, o, none⟩) n cap) l) (k c : Nat) (hk : k ≤ l.length) (hkc : k ≤ c) (hc : c ≤ maxLen) (h0 : g < w.heap.size) : NsE w (.slice (some ⟨g, o, none⟩) k c) (l.take k) := by
  obtain ⟨ao, cap', e, h1, h2, h3⟩ := h.ex
  injection e with e1 e2 e3
  have hl : (l.take k).length = k := by rw [List.length_take]; omega
  refine ⟨some ⟨g, o, none⟩, c, by rw [hl], by rw [hl]; exact hkc, hc, ?_⟩
  rcases h3 with h3 | ⟨g', o', e4, hg, hcell⟩
  · subst h3; exact .inl (by simp)
  · rw [e4] at e1; injection e1 with e1; injection e1 with e5 e6; subst e5 e6
    refine .inr ⟨g, o, rfl, h0, fun i hi => ?_⟩
    rw [List.getElem_take]
    exact hcell i (by rw [hl] at hi; omega)

/-- A row of the call's own: block g has room for cap nodes, and begins with l. -/
structure NrE (w : World) (g cap : Nat) (l : List Ev) : Prop where
  ex : ∃ rest, w.heap[g]? = some (.cells (rowsE l ++ rest).toArray TE (0, 0)) ∧ l.length * 4 + rest.length = cap * 4
  room : l.length ≤ cap
  most : cap ≤ maxLen
theorem NrE.lt {w : World} {g cap : Nat} {l : List Ev} (h : NrE w g cap l) : g < w.heap.size := by
  obtain ⟨r, h, _⟩ := h.ex; exact (Array.getElem?_eq_some_iff.1 h).1
theorem NrE.keep {w w' : World} {g cap : Nat} {l : List Ev} (h : NrE w g cap l) {S : Nat → Prop} (f : Fp S w w') (hS : ¬ S g) : NrE w' g cap l := by
  obtain ⟨r, h1, h2⟩ := h.ex; exact ⟨⟨r, f.heap h1 hS, h2⟩, h.room, h.most⟩
theorem NrE.cell {w : World} {g cap : Nat} {l : List Ev} (h : NrE w g cap l) (i j : Nat) (hi : i < l.length) (hj : j < 4) : w.cell? ⟨g, i * 4 + j, none⟩ = (evC l[i])[j]? := by
  obtain ⟨r, h1, _⟩ := h.ex
  rw [cell_of_row w g _ _ TE (0, 0) h1]
  simp only [List.getElem?_toArray]
  rw [List.getElem?_append_left (by rw [rowsE_len]; omega), rowsE_get l i j hi hj]
theorem NrE.nd {w : World} {g cap : Nat} {l : List Ev} (h : NrE w g cap l) (i : Nat) (hi : i < l.length) : NdAtE w g (0 + i * 4) l[i] := by
  rw [Nat.zero_add]
  exact ⟨h.cell i 0 hi (by omega), h.cell i 1 hi (by omega), h.cell i 2 hi (by omega), h.cell i 3 hi (by omega)⟩
theorem NrE.ns {w : World} {g cap : Nat} {l : List Ev} (h : NrE w g cap l) : NsE w (.slice (some ⟨g, 0, none⟩) l.length cap) l :=
  ⟨_, cap, rfl, h.room, h.most, .inr ⟨g, 0, rfl, h.lt, h.nd⟩⟩
theorem NrE.frozen {w : World} {g cap : Nat} {l : List Ev} (h : NrE w g cap l) (o : Nat) : w.frozen? ⟨g, o, none⟩ = false := by
  obtain ⟨r, h1, _⟩ := h.ex; simp [World.frozen?, h1]
theorem NrE.owns {w : World} {g cap : Nat} {l : List Ev} (h : NrE w g cap l) {lo : Nat} (hlo : lo ≤ g) : w.ownsRow lo TE 4 (.slice (some ⟨g, 0, none⟩) l.length cap) l.length (rowsE l) := by
  obtain ⟨r, h1, h2⟩ := h.ex
  refine ⟨rowsE_len l, .inr ⟨g, cap, _, rfl, hlo, h1, h.room, h.most, by simp [rowsE_len]; omega, ?_⟩⟩
  simp only
  rw [← rowsE_len l]; exact List.take_left
theorem NrE.of_owns {w : World} {lo g cap n : Nat} {l : List Ev} (h : w.ownsRow lo TE 4 (.slice (some ⟨g, 0, none⟩) n cap) n (rowsE l)) (hn : n = l.length) : NrE w g cap l ∧ lo ≤ g := by
  subst hn
  rcases h.2 with ⟨h0, _⟩ | ⟨g', cap', cur, e, hb, hg, h1, h2, h3, h4⟩
  · cases h0
  · injection e with e1 _ e3
    injection e1 with e1
    injection e1 with e1
    subst e1 e3
    refine ⟨⟨⟨cur.toList.drop (l.length * 4), ?_, ?_⟩, h1, h2⟩, hb⟩
    · rw [← h4, List.take_append_drop]; exact hg
    · have e : cur.toList.length = cap * 4 := by rw [Array.length_toList, h3]
      rw [List.length_drop, e]; omega

theorem Try.infoE : (Try.prog.info? TE).map (fun i => (i.zero, i.size, i.bytes)) = some (some (.agg #[.int .i64 0, .int .i64 0, .string ⟨#[]⟩, .int .i64 0]), 4, 40) := by kernel_rfl
theorem szNE (w : World) : (sizeOf TE).run Try.prog w = .ok 4 w := by
  obtain ⟨i, hi, _, hs, _⟩ := info_parts Try.infoE
  simp [sizeOf, typeInfo, hi, hs]
theorem zvNE (w : World) : (zeroValue TE).run Try.prog w = .ok (.agg #[.int .i64 0, .int .i64 0, .string ⟨#[]⟩, .int .i64 0]) w := by
  obtain ⟨i, hi, hz, _, _⟩ := info_parts Try.infoE
  simp [zeroValue, typeInfo, hi, hz]

/-- copy, at a row: some cells read before, laid over. -/
theorem run_copy_nodesE (w : World) (ty : TypeId) (g o dLen dCap : Nat) (a : Addr) (sLen sCap : Nat) (cur : List Value) (m : Nat) (cs : List Value) (hg : w.heap[g]? = some (.cells cur.toArray TE (0, 0))) (hm : m = Nat.min sLen dLen) (hn : cs.length = m * 4)
    (hsrc : ∀ j v, cs[j]? = some v → w.cell? (a.add j) = some v) (hfit : o + cs.length ≤ cur.length) (h1 : ∀ v ∈ cs, v.oneCell' = true) :
    (Builtin.copy_ #[TLE, TLE] ty #[.slice (some ⟨g, o, none⟩) dLen dCap, .slice (some a) sLen sCap]).run Try.prog w = .ok (goInt m) (w.setRow g (cur.take o ++ cs ++ cur.drop (o + cs.length)).toArray) := by
  have hl := run_loadCells_list (P := Try.prog) w a cs hsrc
  have hst := run_storeCells_at Try.prog g o TE cs 0 cur.toArray w hg (by simpa using hfit) h1
  rw [hn] at hl
  simp [Builtin.copy_, run_underlying Try.underlying38, Builtin.lenOf, Builtin.firstCells, ← hm, hl, hst]

/-- clear, at a row. -/
theorem run_clear_nodesE (w : World) (ty : TypeId) (g o n c : Nat) (cur : List Value) (hg : w.heap[g]? = some (.cells cur.toArray TE (0, 0))) (hfit : o + n * 4 ≤ cur.length) (h0 : 0 < n) :
    ∃ zs : List Value, zs.length = n * 4 ∧ (Builtin.clear_ #[TLE] ty #[.slice (some ⟨g, o, none⟩) n c]).run Try.prog w = .ok (.tuple #[]) (w.setRow g (cur.take o ++ zs ++ cur.drop (o + n * 4)).toArray) := by
  refine ⟨(Builtin.zeroCells #[.int .i64 0, .int .i64 0, .string ⟨#[]⟩, .int .i64 0] n).toList, by simp [size_zeroCells], ?_⟩
  have hst := run_storeCells_at Try.prog g o TE (Builtin.zeroCells #[.int .i64 0, .int .i64 0, .string ⟨#[]⟩, .int .i64 0] n).toList 0 cur.toArray w hg (by simpa [size_zeroCells] using hfit) (by
    intro v hv
    simp only [Builtin.zeroCells, Array.toList_map, List.mem_map, Array.toList_range] at hv
    obtain ⟨i, _, rfl⟩ := hv
    have : i % 4 < 4 := Nat.mod_lt _ (by omega)
    generalize i % 4 = k at this
    match k, this with
    | 0, _ => rfl
    | 1, _ => rfl
    | 2, _ => rfl
    | 3, _ => rfl)
  obtain ⟨m, rfl⟩ : ∃ m, n = m + 1 := ⟨n - 1, by omega⟩
  simp [size_zeroCells] at hst
  simp [Builtin.clear_, run_underlying Try.underlying38, Value.cells, hst]

/-- Some slice of nodes behind a row of the call's own. -/
theorem app_nodesE (w : World) (lo : Nat) (v : Value) (l m : List Ev) (ty : TypeId) (g o n c : Nat) (hv : w.ownsRow lo TE 4 v l.length (rowsE l)) (hn : n = m.length) (hx : ∀ i (h : i < m.length), NdAtE w g (o + i * 4) m[i]) (h6 : l.length + m.length ≤ 100000) (hlo : lo ≤ w.heap.size) (h0 : 0 < l.length + m.length) :
    ∃ G cap w', (Builtin.append_ #[TLE, TLE] ty #[v, .slice (some ⟨g, o, none⟩) n c]).run Try.prog w = .ok (.slice (some ⟨G, 0, none⟩) (l.length + m.length) cap) w' ∧ NrE w' G cap (l ++ m) ∧ lo ≤ G ∧ w.grownBy w' v.ownBlock ∧ (v.ownBlock = some G ∨ w.heap.size ≤ G) := by
  obtain ⟨i, hi, hz, hsz, hby⟩ := info_parts Try.infoE
  subst hn
  obtain ⟨v', w', hr, h4, h5, h7, h8⟩ := run_append_own_at (P := Try.prog) w lo TLE ty TE i _ 4 40 Try.underlying38 hi hz hsz hby rfl (by decide) v l.length (rowsE l) hv ⟨g, o, none⟩ m.length c (rowsE m) (rowsE_len m)
    (fun j u hu => by
      have hj : j < m.length * 4 := by rw [← rowsE_len]; exact (List.getElem?_eq_some_iff.1 hu).1
      have hd : j / 4 < m.length := by omega
      have e : j / 4 * 4 + j % 4 = j := by omega
      rw [← e, rowsE_get m (j / 4) (j % 4) hd (by omega)] at hu
      have := (hx (j / 4) hd).get (j % 4) u hu
      rw [Addr.add_lit] at this ⊢
      rwa [show o + j / 4 * 4 + j % 4 = o + j from by omega] at this)
    (rowsE_one m) (by unfold maxLen; omega) (by omega) hlo
  have hne : v' ≠ .slice none 0 0 := fun e => by
    obtain ⟨e1, e2⟩ := h7.1 e
    subst e1
    rcases hv.2 with ⟨_, h⟩ | ⟨_, _, _, h, _⟩
    · omega
    · cases h
  rcases h4.2 with ⟨h9, _⟩ | ⟨G, cap, cur, rfl, hb, hg, r1, r2, r3, r4⟩
  · exact absurd h9 hne
  · rw [← rowsE_app] at h4
    obtain ⟨h10, h11⟩ := NrE.of_owns h4 (by rw [List.length_append])
    refine ⟨G, cap, w', hr, h10, h11, h5, ?_⟩
    rcases h8 with h8 | h8
    · exact .inl h8.symm
    · right; simp [Value.ownBlock] at h8; omega
theorem nil_sliceE (w : World) (a : Addr) (n c : Nat) : (binOp .eql TLE (.slice (some a) n c) (.slice none 0 0)).run Try.prog w = .ok (.bool false) w :=
  Lib.run_eql_slice_nil w TLE TE (some a) n c 0 0 Try.underlying38


/-- Nodes of the call's own, from block lo on; they may be none at all. -/
def OwE (lo : Nat) (w : World) (v : Value) (l : List Ev) : Prop := w.ownsRow lo TE 4 v l.length (rowsE l)
theorem OwE.ways {lo : Nat} {w : World} {v : Value} {l : List Ev} (h : OwE lo w v l) : (v = .slice none 0 0 ∧ l = []) ∨ ∃ G cap, v = .slice (some ⟨G, 0, none⟩) l.length cap ∧ NrE w G cap l ∧ lo ≤ G := by
  have h' := h
  unfold OwE at h'
  rcases h'.2 with ⟨h0, h1⟩ | ⟨g, cap, cur, e, hb, hg, h1, h2, h3, h4⟩
  · refine .inl ⟨h0, ?_⟩
    cases l with
    | nil => rfl
    | cons x l => simp at h1
  · refine .inr ⟨g, cap, e, ?_⟩
    unfold OwE at h
    rw [e] at h
    exact NrE.of_owns h rfl
theorem OwE.ns {lo : Nat} {w : World} {v : Value} {l : List Ev} (h : OwE lo w v l) : NsE w v l := by
  rcases h.ways with ⟨rfl, rfl⟩ | ⟨G, cap, rfl, h1, _⟩
  · exact NsE.nil w
  · exact h1.ns
theorem OwE.row {lo : Nat} {w : World} {G cap : Nat} {l : List Ev} (h : NrE w G cap l) (hlo : lo ≤ G) : OwE lo w (.slice (some ⟨G, 0, none⟩) l.length cap) l := h.owns hlo
theorem OwE.nil (lo : Nat) (w : World) : OwE lo w (.slice none 0 0) [] := ⟨rfl, .inl ⟨rfl, rfl⟩⟩
theorem OwE.keep {lo : Nat} {w w' : World} {v : Value} {l : List Ev} (h : OwE lo w v l) {S : Nat → Prop} (f : Fp S w w') (hS : ∀ k, v.ownBlock = some k → ¬ S k) : OwE lo w' v l := by
  rcases h.ways with ⟨rfl, rfl⟩ | ⟨G, cap, rfl, h1, h2⟩
  · exact OwE.nil lo w'
  · exact OwE.row (h1.keep f (hS G rfl)) h2
theorem OwE.non {lo : Nat} {w w' : World} {v : Value} {l : List Ev} (h : OwE lo w v l) (f : Fp Non w w') : OwE lo w' v l := h.keep f (fun _ _ h => h)
theorem OwE.low {lo : Nat} {w : World} {v : Value} {l : List Ev} (h : OwE lo w v l) : ∀ k, v.ownBlock = some k → lo ≤ k := by
  rcases h.ways with ⟨rfl, rfl⟩ | ⟨G, cap, rfl, _, h2⟩
  · intro k hk; simp [Value.ownBlock] at hk
  · intro k hk; simp [Value.ownBlock] at hk; omega

/-- Some slice of nodes behind nodes of the call's own, all cases. -/
theorem app_ownE (w : World) (lo : Nat) (v : Value) (l m : List Ev) (ty : TypeId) (a : Addr) (n c : Nat) (hv : OwE lo w v l) (hn : n = m.length) (hx : ∀ i (h : i < m.length) j u, (evC m[i])[j]? = some u → w.cell? (a.add (i * 4 + j)) = some u) (h6 : l.length + m.length ≤ 100000) (hlo : lo ≤ w.heap.size) :
    ∃ v' w', (Builtin.append_ #[TLE, TLE] ty #[v, .slice (some a) n c]).run Try.prog w = .ok v' w' ∧ OwE lo w' v' (l ++ m) ∧ w.grownBy w' v.ownBlock ∧ ∀ k, v'.ownBlock = some k → v.ownBlock = some k ∨ w.heap.size ≤ k := by
  obtain ⟨i, hi, hz, hsz, hby⟩ := info_parts Try.infoE
  subst hn
  obtain ⟨v', w', hr, h4, h5, _, h8⟩ := run_append_own_at (P := Try.prog) w lo TLE ty TE i _ 4 40 Try.underlying38 hi hz hsz hby rfl (by decide) v l.length (rowsE l) hv a m.length c (rowsE m) (rowsE_len m)
    (fun j u hu => by
      have hj : j < m.length * 4 := by rw [← rowsE_len]; exact (List.getElem?_eq_some_iff.1 hu).1
      have hd : j / 4 < m.length := by omega
      have e : j / 4 * 4 + j % 4 = j := by omega
      rw [← e, rowsE_get m (j / 4) (j % 4) hd (by omega)] at hu
      have := hx (j / 4) hd (j % 4) u hu
      rwa [e] at this)
    (rowsE_one m) (by unfold maxLen; omega) (by omega) hlo
  refine ⟨v', w', hr, ?_, h5, fun k hk => ?_⟩
  · unfold OwE
    rw [rowsE_app, List.length_append]; exact h4
  · rcases h8 with e | e
    · exact .inl (by rw [← e]; exact hk)
    · rw [hk] at e; injection e with e; exact .inr (by omega)

/-- Nodes of the call's own, behind one call. -/
structure OwRE (w : World) (l : List Ev) (v' : Value) (w' : World) : Prop where
  own : OwE w.heap.size w' v' l
  fp : Fp Non w w'

set_option maxHeartbeats 2000000 in
theorem Clone_ownE (v : Value) (l : List Ev) (w : World) (hv : NsE w v l) (h5 : l.length ≤ 100000) :
    Calls Try.prog 35 #[v] w fun e w' => ∃ v', e = .returned v' ∧ OwRE w l v' w' := by
  obtain ⟨ao, cap, rfl, h1, h2, h3⟩ := hv.ex
  cases ao with
  | none =>
    obtain rfl : l = [] := by
      rcases h3 with h | ⟨_, _, h, _⟩
      · exact h
      · cases h
    have hnil : ∀ w : World, (binOp .eql TLE (.slice none 0 cap) (.slice none 0 0)).run Try.prog w = .ok (.bool true) w := fun w => Lib.run_eql_slice_nil w TLE TE none 0 cap 0 0 Try.underlying38
    clear h1 h2 h3 hv h5
    simp only [List.length_nil]
    go_enter Try.func35, Try.ntmps35
    go_wp2
    go_ret
    exact ⟨_, rfl, OwE.nil _ _, Fp.refl _ _⟩
  | some a =>
    have hown : OwE w.heap.size (w.alloc (.cells #[] TE)) (.slice (some ⟨w.heap.size, 0, none⟩) 0 0) [] := World.ownsRow_lit w #[] 0 (Nat.le_refl _) (by unfold maxLen; omega) rfl
    have hx : ∀ i (h : i < l.length) j u, (evC l[i])[j]? = some u → (w.alloc (.cells #[] TE)).cell? (a.add (i * 4 + j)) = some u := fun i hi j u hu => by
      rcases h3 with h | ⟨g, o, e, _, hc⟩
      · subst h; simp at hi
      · injection e with e; subst e
        have := ((hc i hi).keep ((Fp.refl Non w).alloc (.cells #[] TE)) (fun h => h)).get j u hu
        rw [Addr.add_lit] at this ⊢
        rwa [Nat.add_assoc] at this
    have hap : ∀ ty, ∃ v' w', (Builtin.append_ #[TLE, TLE] ty #[.slice (some ⟨w.heap.size, 0, none⟩) 0 0, .slice (some a) l.length cap]).run Try.prog (w.alloc (.cells #[] TE)) = .ok v' w' ∧ OwRE w l v' w' := fun ty => by
      obtain ⟨v', w', hr, ho, hg, _⟩ := app_ownE (w.alloc (.cells #[] TE)) w.heap.size _ [] l ty a l.length cap hown rfl hx (by simp; omega) (by simp)
      exact ⟨v', w', hr, ho, ((Fp.refl Non w).alloc _).grown hg (fun k hk => .inr (by simp [Value.ownBlock] at hk; omega))⟩
    have hnil := nil_sliceE
    have HA2 := Lib.hid (hap TLE)
    clear hap hown hx hv h1 h2 h3 h5
    generalize l.length = n at *
    go_enter Try.func35, Try.ntmps35
    go_wp2_with (at_builtin; go_must (refine wpList_app rfl _ _ _ _ rfl _ _ rfl rfl (OwRE w l) HA2.out ?_))
    intro u w2 hR
    have HR := Lib.hid hR
    clear hR
    go_wp2
    go_ret
    exact ⟨_, rfl, HR.out⟩

/-- What a change of nodes of the call's own leaves. -/
structure ChRE (lo : Nat) (w : World) (v : Value) (l : List Ev) (v' : Value) (w' : World) : Prop where
  own : OwE lo w' v' l
  fp : Fp (fun k => v.ownBlock = some k) w w'
  new : ∀ k, v'.ownBlock = some k → v.ownBlock = some k ∨ w.heap.size ≤ k


end Go.Proofs.Ytjdpbieifcjmiaa
