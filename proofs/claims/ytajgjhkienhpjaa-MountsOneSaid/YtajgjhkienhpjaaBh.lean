/- Rows of api.Mount: slices of them, rows of the call's own; slices.Clone (gen_b.py) -/
import Derived.Test.YtajgjhkienhpjaaBm
namespace Go.Proofs.Ytajgjhkienhpjaa
set_option maxRecDepth 20000
set_option linter.unusedVariables false
set_option linter.unusedSimpArgs false
open Go.RowKit Pm

abbrev TM : TypeId := 27
abbrev TLM : TypeId := 22
/-- A node's cells. -/
def mtC (n : Mt) : List Value := [strV n.d, .int .i64 n.g, .int .i64 n.e, .int .i64 n.t]
def mtV (n : Mt) : Value := .agg #[strV n.d, .int .i64 n.g, .int .i64 n.e, .int .i64 n.t]
def rowsM (l : List Mt) : List Value := l.flatMap mtC
theorem mtC_len (n : Mt) : (mtC n).length = 4 := rfl
theorem mtV_cells (n : Mt) : (mtV n).cells = (mtC n).toArray := rfl
theorem rowsM_nil : rowsM [] = [] := rfl
theorem rowsM_cons (n : Mt) (l : List Mt) : rowsM (n :: l) = mtC n ++ rowsM l := by simp [rowsM]
theorem rowsM_app (a b : List Mt) : rowsM (a ++ b) = rowsM a ++ rowsM b := by simp [rowsM]
theorem rowsM_len (l : List Mt) : (rowsM l).length = l.length * 4 := by
  induction l with
  | nil => rfl
  | cons n l ih => rw [rowsM_cons, List.length_append, mtC_len, ih, List.length_cons]; omega
theorem rowsM_get (l : List Mt) (i j : Nat) (hi : i < l.length) (hj : j < 4) : (rowsM l)[i * 4 + j]? = (mtC l[i])[j]? := by
  induction l generalizing i with
  | nil => simp at hi
  | cons n l ih =>
    rw [rowsM_cons]
    cases i with
    | zero => rw [List.getElem?_append_left (by rw [mtC_len]; omega)]; simp
    | succ i =>
      rw [List.getElem?_append_right (by rw [mtC_len]; omega), mtC_len, show (i + 1) * 4 + j - 4 = i * 4 + j from by omega, ih i (by simpa using hi)]
      simp
theorem rowsM_one (l : List Mt) : ∀ u ∈ rowsM l, u.oneCell' = true := by
  intro u hu
  unfold rowsM at hu
  rw [List.mem_flatMap] at hu
  obtain ⟨n, _, hu⟩ := hu
  simp only [mtC, List.mem_cons, List.not_mem_nil, or_false] at hu
  rcases hu with rfl | rfl | rfl | rfl <;> rfl
theorem rowsM_take (l : List Mt) (k : Nat) : (rowsM l).take (k * 4) = rowsM (l.take k) := by
  induction l generalizing k with
  | nil => simp [rowsM]
  | cons n l ih =>
    cases k with
    | zero => simp [rowsM]
    | succ k => rw [List.take_succ_cons, rowsM_cons, rowsM_cons, ← ih, List.take_append, mtC_len, List.take_of_length_le (by rw [mtC_len]; omega), show (k + 1) * 4 - 4 = k * 4 from by omega]
theorem rowsM_drop (l : List Mt) (k : Nat) : (rowsM l).drop (k * 4) = rowsM (l.drop k) := by
  induction l generalizing k with
  | nil => simp [rowsM]
  | cons n l ih =>
    cases k with
    | zero => simp [rowsM]
    | succ k => rw [List.drop_succ_cons, rowsM_cons, ← ih, List.drop_append, mtC_len, List.drop_of_length_le (by rw [mtC_len]; omega), show (k + 1) * 4 - 4 = k * 4 from by omega]; rfl

/-- A node at a place. -/
structure NdAtM (w : World) (g o : Nat) (n : Mt) : Prop where
  c0 : w.cell? ⟨g, o, none⟩ = some (strV n.d)
  c1 : w.cell? ⟨g, o + 1, none⟩ = some (.int .i64 n.g)
  c2 : w.cell? ⟨g, o + 2, none⟩ = some (.int .i64 n.e)
  c3 : w.cell? ⟨g, o + 3, none⟩ = some (.int .i64 n.t)
theorem NdAtM.keep {w w' : World} {g o : Nat} {n : Mt} (h : NdAtM w g o n) {S : Nat → Prop} (f : Fp S w w') (hS : ¬ S g) : NdAtM w' g o n :=
  ⟨ f.cell h.c0 hS, f.cell h.c1 hS, f.cell h.c2 hS, f.cell h.c3 hS⟩
theorem NdAtM.get {w : World} {g o : Nat} {n : Mt} (h : NdAtM w g o n) : ∀ j v, (mtC n)[j]? = some v → w.cell? ((⟨g, o, none⟩ : Addr).add j) = some v := by
  intro j v hv
  rw [Addr.add_lit]
  match j, hv with
  | 0, hv => rw [← Option.some.inj hv]; exact h.c0
  | 1, hv => rw [← Option.some.inj hv]; exact h.c1
  | 2, hv => rw [← Option.some.inj hv]; exact h.c2
  | 3, hv => rw [← Option.some.inj hv]; exact h.c3
  | j + 4, hv => simp [mtC] at hv

/-- A slice that reads as nodes. -/
structure NsM (w : World) (v : Value) (l : List Mt) : Prop where
  ex : ∃ ao cap, v = .slice ao l.length cap ∧ l.length ≤ cap ∧ cap ≤ maxLen ∧ (l = [] ∨ ∃ g o, ao = some ⟨g, o, none⟩ ∧ g < w.heap.size ∧ ∀ i (h : i < l.length), NdAtM w g (o + i * 4) l[i])
theorem NsM.keep {w w' : World} {v : Value} {l : List Mt} (h : NsM w v l) {S : Nat → Prop} (f : Fp S w w') (hS : ∀ k, v.ownBlock = some k → ¬ S k) : NsM w' v l := by
  obtain ⟨ao, cap, rfl, h1, h2, h3⟩ := h.ex
  refine ⟨ao, cap, rfl, h1, h2, ?_⟩
  rcases h3 with h3 | ⟨g, o, rfl, hg, hc⟩
  · exact .inl h3
  · exact .inr ⟨g, o, rfl, Nat.lt_of_lt_of_le hg f.size, fun i hi => (hc i hi).keep f (hS g rfl)⟩
theorem NsM.non {w w' : World} {v : Value} {l : List Mt} (h : NsM w v l) (f : Fp Non w w') : NsM w' v l := h.keep f (fun _ _ h => h)
theorem NsM.nil (w : World) : NsM w (.slice none 0 0) [] := ⟨none, 0, rfl, Nat.le_refl _, Nat.zero_le _, .inl rfl⟩
theorem NsM.shape {w : World} {v : Value} {l : List Mt} (h : NsM w v l) : ∃ ao cap, v = .slice ao l.length cap := by
  obtain ⟨ao, cap, rfl, _⟩ := h.ex; exact ⟨ao, cap, rfl⟩
theorem NsM.at {w : World} {v : Value} {l : List Mt} (h : NsM w v l) (h0 : 0 < l.length) : ∃ g o cap, v = .slice (some ⟨g, o, none⟩) l.length cap ∧ l.length ≤ cap ∧ cap ≤ maxLen ∧ g < w.heap.size ∧ ∀ i (h : i < l.length), NdAtM w g (o + i * 4) l[i] := by
  obtain ⟨ao, cap, rfl, h1, h2, h3⟩ := h.ex
  rcases h3 with h3 | ⟨g, o, rfl, hg, hc⟩
  · subst h3; simp at h0
  · exact ⟨g, o, cap, rfl, h1, h2, hg, hc⟩
theorem NsM.take {w : World} {g o n cap : Nat} {l : List Mt} (h : NsM w (.slice (some ⟨g, o, none⟩) n cap) l) (k c : Nat) (hk : k ≤ l.length) (hkc : k ≤ c) (hc : c ≤ maxLen) (h0 : g < w.heap.size) : NsM w (.slice (some ⟨g, o, none⟩) k c) (l.take k) := by
  obtain ⟨ao, cap', e, h1, h2, h3⟩ := h.ex
  injection e with e1 e2 e3
  have hl : (l.take k).length = k := by rw [List.length_take]; omega
  refine ⟨some ⟨g, o, none⟩, c, by rw [hl], by rw [hl]; exact hkc, hc, ?_⟩
  rcases h3 with h3 | ⟨g', o', e4, hg, hcell⟩
  · subst h3; exact .inl (by simp)
  · rw [e4] at e1; injection e1 with e1; injection e1 with e5 e6; subst e5 e6
    refine .inr ⟨g, o, rfl, h0, fun i hi => ?_⟩
    rw [List.getElem_take]
    exact hcell i (by rw [hl] at hi; omega)

/-- A row of the call's own: block g has room for cap nodes, and begins with l. -/
structure NrM (w : World) (g cap : Nat) (l : List Mt) : Prop where
  ex : ∃ rest, w.heap[g]? = some (.cells (rowsM l ++ rest).toArray TM (0, 0)) ∧ l.length * 4 + rest.length = cap * 4
  room : l.length ≤ cap
  most : cap ≤ maxLen
theorem NrM.lt {w : World} {g cap : Nat} {l : List Mt} (h : NrM w g cap l) : g < w.heap.size := by
  obtain ⟨r, h, _⟩ := h.ex; exact (Array.getElem?_eq_some_iff.1 h).1
theorem NrM.keep {w w' : World} {g cap : Nat} {l : List Mt} (h : NrM w g cap l) {S : Nat → Prop} (f : Fp S w w') (hS : ¬ S g) : NrM w' g cap l := by
  obtain ⟨r, h1, h2⟩ := h.ex; exact ⟨⟨r, f.heap h1 hS, h2⟩, h.room, h.most⟩
theorem NrM.cell {w : World} {g cap : Nat} {l : List Mt} (h : NrM w g cap l) (i j : Nat) (hi : i < l.length) (hj : j < 4) : w.cell? ⟨g, i * 4 + j, none⟩ = (mtC l[i])[j]? := by
  obtain ⟨r, h1, _⟩ := h.ex
  rw [cell_of_row w g _ _ TM (0, 0) h1]
  simp only [List.getElem?_toArray]
  rw [List.getElem?_append_left (by rw [rowsM_len]; omega), rowsM_get l i j hi hj]
theorem NrM.nd {w : World} {g cap : Nat} {l : List Mt} (h : NrM w g cap l) (i : Nat) (hi : i < l.length) : NdAtM w g (0 + i * 4) l[i] := by
  rw [Nat.zero_add]
  exact ⟨ h.cell i 0 hi (by omega), h.cell i 1 hi (by omega), h.cell i 2 hi (by omega), h.cell i 3 hi (by omega)⟩
theorem NrM.ns {w : World} {g cap : Nat} {l : List Mt} (h : NrM w g cap l) : NsM w (.slice (some ⟨g, 0, none⟩) l.length cap) l :=
  ⟨_, cap, rfl, h.room, h.most, .inr ⟨g, 0, rfl, h.lt, h.nd⟩⟩
theorem NrM.frozen {w : World} {g cap : Nat} {l : List Mt} (h : NrM w g cap l) (o : Nat) : w.frozen? ⟨g, o, none⟩ = false := by
  obtain ⟨r, h1, _⟩ := h.ex; simp [World.frozen?, h1]
theorem NrM.owns {w : World} {g cap : Nat} {l : List Mt} (h : NrM w g cap l) {lo : Nat} (hlo : lo ≤ g) : w.ownsRow lo TM 4 (.slice (some ⟨g, 0, none⟩) l.length cap) l.length (rowsM l) := by
  obtain ⟨r, h1, h2⟩ := h.ex
  refine ⟨rowsM_len l, .inr ⟨g, cap, _, rfl, hlo, h1, h.room, h.most, by simp [rowsM_len]; omega, ?_⟩⟩
  simp only
  rw [← rowsM_len l]; exact List.take_left
theorem NrM.of_owns {w : World} {lo g cap n : Nat} {l : List Mt} (h : w.ownsRow lo TM 4 (.slice (some ⟨g, 0, none⟩) n cap) n (rowsM l)) (hn : n = l.length) : NrM w g cap l ∧ lo ≤ g := by
  subst hn
  rcases h.2 with ⟨h0, _⟩ | ⟨g', cap', cur, e, hb, hg, h1, h2, h3, h4⟩
  · cases h0
  · injection e with e1 _ e3
    injection e1 with e1
    injection e1 with e1
    subst e1 e3
    refine ⟨⟨⟨cur.toList.drop (l.length * 4), ?_, ?_⟩, h1, h2⟩, hb⟩
    · rw [← h4, List.take_append_drop]; exact hg
    · have e : cur.toList.length = cap * 4 := by rw [Array.length_toList, h3]
      rw [List.length_drop, e]; omega

theorem Try.infoM : (Try.prog.info? TM).map (fun i => (i.zero, i.size, i.bytes)) = some (some (.agg #[.string ⟨#[]⟩, .int .i64 0, .int .i64 0, .int .i64 0]), 4, 40) := by kernel_rfl
theorem szNM (w : World) : (sizeOf TM).run Try.prog w = .ok 4 w := by
  obtain ⟨i, hi, _, hs, _⟩ := info_parts Try.infoM
  simp [sizeOf, typeInfo, hi, hs]
theorem zvNM (w : World) : (zeroValue TM).run Try.prog w = .ok (.agg #[.string ⟨#[]⟩, .int .i64 0, .int .i64 0, .int .i64 0]) w := by
  obtain ⟨i, hi, hz, _, _⟩ := info_parts Try.infoM
  simp [zeroValue, typeInfo, hi, hz]

/-- copy, at a row: some cells read before, laid over. -/
theorem run_copy_nodesM (w : World) (ty : TypeId) (g o dLen dCap : Nat) (a : Addr) (sLen sCap : Nat) (cur : List Value) (m : Nat) (cs : List Value) (hg : w.heap[g]? = some (.cells cur.toArray TM (0, 0))) (hm : m = Nat.min sLen dLen) (hn : cs.length = m * 4)
    (hsrc : ∀ j v, cs[j]? = some v → w.cell? (a.add j) = some v) (hfit : o + cs.length ≤ cur.length) (h1 : ∀ v ∈ cs, v.oneCell' = true) :
    (Builtin.copy_ #[TLM, TLM] ty #[.slice (some ⟨g, o, none⟩) dLen dCap, .slice (some a) sLen sCap]).run Try.prog w = .ok (goInt m) (w.setRow g (cur.take o ++ cs ++ cur.drop (o + cs.length)).toArray) := by
  have hl := run_loadCells_list (P := Try.prog) w a cs hsrc
  have hst := run_storeCells_at Try.prog g o TM cs 0 cur.toArray w hg (by simpa using hfit) h1
  rw [hn] at hl
  simp [Builtin.copy_, run_underlying Try.underlying22, Builtin.lenOf, Builtin.firstCells, ← hm, hl, hst]

/-- clear, at a row. -/
theorem run_clear_nodesM (w : World) (ty : TypeId) (g o n c : Nat) (cur : List Value) (hg : w.heap[g]? = some (.cells cur.toArray TM (0, 0))) (hfit : o + n * 4 ≤ cur.length) (h0 : 0 < n) :
    ∃ zs : List Value, zs.length = n * 4 ∧ (Builtin.clear_ #[TLM] ty #[.slice (some ⟨g, o, none⟩) n c]).run Try.prog w = .ok (.tuple #[]) (w.setRow g (cur.take o ++ zs ++ cur.drop (o + n * 4)).toArray) := by
  refine ⟨(Builtin.zeroCells #[.string ⟨#[]⟩, .int .i64 0, .int .i64 0, .int .i64 0] n).toList, by simp [size_zeroCells], ?_⟩
  have hst := run_storeCells_at Try.prog g o TM (Builtin.zeroCells #[.string ⟨#[]⟩, .int .i64 0, .int .i64 0, .int .i64 0] n).toList 0 cur.toArray w hg (by simpa [size_zeroCells] using hfit) (by
    intro v hv
    simp only [Builtin.zeroCells, Array.toList_map, List.mem_map, Array.toList_range] at hv
    obtain ⟨i, _, rfl⟩ := hv
    have : i % 4 < 4 := Nat.mod_lt _ (by omega)
    generalize i % 4 = k at this
    match k, this with
    | 0, _ => rfl
    | 1, _ => rfl
    | 2, _ => rfl
    | 3, _ => rfl)
  obtain ⟨m, rfl⟩ : ∃ m, n = m + 1 := ⟨n - 1, by omega⟩
  simp [size_zeroCells] at hst
  simp [Builtin.clear_, run_underlying Try.underlying22, Value.cells, hst]

/-- Some slice of nodes behind a row of the call's own. -/
theorem app_nodesM (w : World) (lo : Nat) (v : Value) (l m : List Mt) (ty : TypeId) (g o n c : Nat) (hv : w.ownsRow lo TM 4 v l.length (rowsM l)) (hn : n = m.length) (hx : ∀ i (h : i < m.length), NdAtM w g (o + i * 4) m[i]) (h6 : l.length + m.length ≤ 100000) (hlo : lo ≤ w.heap.size) (h0 : 0 < l.length + m.length) :
    ∃ G cap w', (Builtin.append_ #[TLM, TLM] ty #[v, .slice (some ⟨g, o, none⟩) n c]).run Try.prog w = .ok (.slice (some ⟨G, 0, none⟩) (l.length + m.length) cap) w' ∧ NrM w' G cap (l ++ m) ∧ lo ≤ G ∧ w.grownBy w' v.ownBlock ∧ (v.ownBlock = some G ∨ w.heap.size ≤ G) := by
  obtain ⟨i, hi, hz, hsz, hby⟩ := info_parts Try.infoM
  subst hn
  obtain ⟨v', w', hr, h4, h5, h7, h8⟩ := run_append_own_at (P := Try.prog) w lo TLM ty TM i _ 4 40 Try.underlying22 hi hz hsz hby rfl (by decide) v l.length (rowsM l) hv ⟨g, o, none⟩ m.length c (rowsM m) (rowsM_len m)
    (fun j u hu => by
      have hj : j < m.length * 4 := by rw [← rowsM_len]; exact (List.getElem?_eq_some_iff.1 hu).1
      have hd : j / 4 < m.length := by omega
      have e : j / 4 * 4 + j % 4 = j := by omega
      rw [← e, rowsM_get m (j / 4) (j % 4) hd (by omega)] at hu
      have := (hx (j / 4) hd).get (j % 4) u hu
      rw [Addr.add_lit] at this ⊢
      rwa [show o + j / 4 * 4 + j % 4 = o + j from by omega] at this)
    (rowsM_one m) (by unfold maxLen; omega) (by omega) hlo
  have hne : v' ≠ .slice none 0 0 := fun e => by
    obtain ⟨e1, e2⟩ := h7.1 e
    subst e1
    rcases hv.2 with ⟨_, h⟩ | ⟨_, _, _, h, _⟩
    · omega
    · cases h
  rcases h4.2 with ⟨h9, _⟩ | ⟨G, cap, cur, rfl, hb, hg, r1, r2, r3, r4⟩
  · exact absurd h9 hne
  · rw [← rowsM_app] at h4
    obtain ⟨h10, h11⟩ := NrM.of_owns h4 (by rw [List.length_append])
    refine ⟨G, cap, w', hr, h10, h11, h5, ?_⟩
    rcases h8 with h8 | h8
    · exact .inl h8.symm
    · right; simp [Value.ownBlock] at h8; omega
theorem nil_sliceM (w : World) (a : Addr) (n c : Nat) : (binOp .eql TLM (.slice (some a) n c) (.slice none 0 0)).run Try.prog w = .ok (.bool false) w :=
  Lib.run_eql_slice_nil w TLM TM (some a) n c 0 0 Try.underlying22


/-- Nodes of the call's own, from block lo on; they may be none at all. -/
def OwM (lo : Nat) (w : World) (v : Value) (l : List Mt) : Prop := w.ownsRow lo TM 4 v l.length (rowsM l)
theorem OwM.ways {lo : Nat} {w : World} {v : Value} {l : List Mt} (h : OwM lo w v l) : (v = .slice none 0 0 ∧ l = []) ∨ ∃ G cap, v = .slice (some ⟨G, 0, none⟩) l.length cap ∧ NrM w G cap l ∧ lo ≤ G := by
  have h' := h
  unfold OwM at h'
  rcases h'.2 with ⟨h0, h1⟩ | ⟨g, cap, cur, e, hb, hg, h1, h2, h3, h4⟩
  · refine .inl ⟨h0, ?_⟩
    cases l with
    | nil => rfl
    | cons x l => simp at h1
  · refine .inr ⟨g, cap, e, ?_⟩
    unfold OwM at h
    rw [e] at h
    exact NrM.of_owns h rfl
theorem OwM.ns {lo : Nat} {w : World} {v : Value} {l : List Mt} (h : OwM lo w v l) : NsM w v l := by
  rcases h.ways with ⟨rfl, rfl⟩ | ⟨G, cap, rfl, h1, _⟩
  · exact NsM.nil w
  · exact h1.ns
theorem OwM.row {lo : Nat} {w : World} {G cap : Nat} {l : List Mt} (h : NrM w G cap l) (hlo : lo ≤ G) : OwM lo w (.slice (some ⟨G, 0, none⟩) l.length cap) l := h.owns hlo
theorem OwM.nil (lo : Nat) (w : World) : OwM lo w (.slice none 0 0) [] := ⟨rfl, .inl ⟨rfl, rfl⟩⟩
theorem OwM.keep {lo : Nat} {w w' : World} {v : Value} {l : List Mt} (h : OwM lo w v l) {S : Nat → Prop} (f : Fp S w w') (hS : ∀ k, v.ownBlock = some k → ¬ S k) : OwM lo w' v l := by
  rcases h.ways with ⟨rfl, rfl⟩ | ⟨G, cap, rfl, h1, h2⟩
  · exact OwM.nil lo w'
  · exact OwM.row (h1.keep f (hS G rfl)) h2
theorem OwM.non {lo : Nat} {w w' : World} {v : Value} {l : List Mt} (h : OwM lo w v l) (f : Fp Non w w') : OwM lo w' v l := h.keep f (fun _ _ h => h)
theorem OwM.low {lo : Nat} {w : World} {v : Value} {l : List Mt} (h : OwM lo w v l) : ∀ k, v.ownBlock = some k → lo ≤ k := by
  rcases h.ways with ⟨rfl, rfl⟩ | ⟨G, cap, rfl, _, h2⟩
  · intro k hk; simp [Value.ownBlock] at hk
  · intro k hk; simp [Value.ownBlock] at hk; omega

/-- Some slice of nodes behind nodes of the call's own, all cases. -/
theorem app_ownM (w : World) (lo : Nat) (v : Value) (l m : List Mt) (ty : TypeId) (a : Addr) (n c : Nat) (hv : OwM lo w v l) (hn : n = m.length) (hx : ∀ i (h : i < m.length) j u, (mtC m[i])[j]? = some u → w.cell? (a.add (i * 4 + j)) = some u) (h6 : l.length + m.length ≤ 100000) (hlo : lo ≤ w.heap.size) :
    ∃ v' w', (Builtin.append_ #[TLM, TLM] ty #[v, .slice (some a) n c]).run Try.prog w = .ok v' w' ∧ OwM lo w' v' (l ++ m) ∧ w.grownBy w' v.ownBlock ∧ ∀ k, v'.ownBlock = some k → v.ownBlock = some k ∨ w.heap.size ≤ k := by
  obtain ⟨i, hi, hz, hsz, hby⟩ := info_parts Try.infoM
  subst hn
  obtain ⟨v', w', hr, h4, h5, _, h8⟩ := run_append_own_at (P := Try.prog) w lo TLM ty TM i _ 4 40 Try.underlying22 hi hz hsz hby rfl (by decide) v l.length (rowsM l) hv a m.length c (rowsM m) (rowsM_len m)
    (fun j u hu => by
      have hj : j < m.length * 4 := by rw [← rowsM_len]; exact (List.getElem?_eq_some_iff.1 hu).1
      have hd : j / 4 < m.length := by omega
      have e : j / 4 * 4 + j % 4 = j := by omega
      rw [← e, rowsM_get m (j / 4) (j % 4) hd (by omega)] at hu
      have := hx (j / 4) hd (j % 4) u hu
      rwa [e] at this)
    (rowsM_one m) (by unfold maxLen; omega) (by omega) hlo
  refine ⟨v', w', hr, ?_, h5, fun k hk => ?_⟩
  · unfold OwM
    rw [rowsM_app, List.length_append]; exact h4
  · rcases h8 with e | e
    · exact .inl (by rw [← e]; exact hk)
    · rw [hk] at e; injection e with e; exact .inr (by omega)

/-- Nodes of the call's own, behind one call. -/
structure OwRM (w : World) (l : List Mt) (v' : Value) (w' : World) : Prop where
  own : OwM w.heap.size w' v' l
  fp : Fp Non w w'

set_option maxHeartbeats 2000000 in
theorem Clone_ownM (v : Value) (l : List Mt) (w : World) (hv : NsM w v l) (h5 : l.length ≤ 100000) :
    Calls Try.prog 39 #[v] w fun e w' => ∃ v', e = .returned v' ∧ OwRM w l v' w' := by
  obtain ⟨ao, cap, rfl, h1, h2, h3⟩ := hv.ex
  cases ao with
  | none =>
    obtain rfl : l = [] := by
      rcases h3 with h | ⟨_, _, h, _⟩
      · exact h
      · cases h
    have hnil : ∀ w : World, (binOp .eql TLM (.slice none 0 cap) (.slice none 0 0)).run Try.prog w = .ok (.bool true) w := fun w => Lib.run_eql_slice_nil w TLM TM none 0 cap 0 0 Try.underlying22
    clear h1 h2 h3 hv h5
    simp only [List.length_nil]
    go_enter Try.func39, Try.ntmps39
    go_wp2
    go_ret
    exact ⟨_, rfl, OwM.nil _ _, Fp.refl _ _⟩
  | some a =>
    have hown : OwM w.heap.size (w.alloc (.cells #[] TM)) (.slice (some ⟨w.heap.size, 0, none⟩) 0 0) [] := World.ownsRow_lit w #[] 0 (Nat.le_refl _) (by unfold maxLen; omega) rfl
    have hx : ∀ i (h : i < l.length) j u, (mtC l[i])[j]? = some u → (w.alloc (.cells #[] TM)).cell? (a.add (i * 4 + j)) = some u := fun i hi j u hu => by
      rcases h3 with h | ⟨g, o, e, _, hc⟩
      · subst h; simp at hi
      · injection e with e; subst e
        have := ((hc i hi).keep ((Fp.refl Non w).alloc (.cells #[] TM)) (fun h => h)).get j u hu
        rw [Addr.add_lit] at this ⊢
        rwa [Nat.add_assoc] at this
    have hap : ∀ ty, ∃ v' w', (Builtin.append_ #[TLM, TLM] ty #[.slice (some ⟨w.heap.size, 0, none⟩) 0 0, .slice (some a) l.length cap]).run Try.prog (w.alloc (.cells #[] TM)) = .ok v' w' ∧ OwRM w l v' w' := fun ty => by
      obtain ⟨v', w', hr, ho, hg, _⟩ := app_ownM (w.alloc (.cells #[] TM)) w.heap.size _ [] l ty a l.length cap hown rfl hx (by simp; omega) (by simp)
      exact ⟨v', w', hr, ho, ((Fp.refl Non w).alloc _).grown hg (fun k hk => .inr (by simp [Value.ownBlock] at hk; omega))⟩
    have hnil := nil_sliceM
    have HA2 := Lib.hid (hap TLM)
    clear hap hown hx hv h1 h2 h3 h5
    generalize l.length = n at *
    go_enter Try.func39, Try.ntmps39
    go_wp2_with (at_builtin; go_must (refine wpList_app rfl _ _ _ _ rfl _ _ rfl rfl (OwRM w l) HA2.out ?_))
    intro u w2 hR
    have HR := Lib.hid hR
    clear hR
    go_wp2
    go_ret
    exact ⟨_, rfl, HR.out⟩

/-- What a change of nodes of the call's own leaves. -/
structure ChRM (lo : Nat) (w : World) (v : Value) (l : List Mt) (v' : Value) (w' : World) : Prop where
  own : OwM lo w' v' l
  fp : Fp (fun k => v.ownBlock = some k) w w'
  new : ∀ k, v'.ownBlock = some k → v.ownBlock = some k ∨ w.heap.size ≤ k


end Go.Proofs.Ytajgjhkienhpjaa
