/- Texts of this proof, merged. -/
import Derived.Test.YtlmfinpmlilcgaaZC
import Derived.Test.YtlmfinpmlilcgaaZB
set_option linter.unusedVariables false
set_option linter.unusedSimpArgs false
/- slices.Insert, whole; slices.Delete at nodes. -/
namespace Go.Proofs.Ytlmfinpmlilcgaa
set_option maxRecDepth 20000
open Go.RowKit Pm

theorem step_app {P : Program} {ops : Array Oper} {o : Oper} {a : Act} {w : World} {K : Act → World → Prop} {Q : Exit → Act → World → Prop} {E : Prop} (hgd : o.guard = none) (s x : Operand) (t u : TypeId)
    (ho : o.op = .call { callee := .builtin .append, args := #[s, x], argTypes := #[t, u] }) (v xv : Value) (hs : a.eval s = v) (hx : a.eval x = xv) (R : Value → World → Prop)
    (hr : ∃ v' w', (Builtin.append_ #[t, u] o.type #[v, xv]).run P w = .ok v' w' ∧ R v' w') (h : ∀ v' w', R v' w' → K (a.put o.dst v') w') :
    if Region.wanted o (yielded ops a.tmps) = true then Oper.wp P o a w K Q else E := by
  have hw : Region.wanted o (yielded ops a.tmps) = true := by simp [Region.wanted, hgd]
  rw [if_pos hw]
  obtain ⟨v', w', hr, h2⟩ := hr
  unfold Oper.wp execOp
  simp only [ho, resolve, invoke, builtin, Sem.run_bind, Sem.run_pure, Result.andThen_ok, List.map_toArray, List.map_cons, List.map_nil, hs, hx, hr]
  exact h v' w' h2

/-- Behind the append of what lies behind: a row whose beginning is known. -/
structure DelR (w : World) (G cap n : Nat) (l : List Nd) (v' : Value) (w' : World) : Prop where
  v : v' = .slice (some ⟨G, 0, none⟩) n cap
  row : Nr w' G cap l
  fp : Fp (fun j => j = G) w w'

theorem app_in {w : World} {G cap : Nat} {l m : List Nd} (h : Nr w G cap l) (k : Nat) (ty : TypeId) (a : Addr) (c : Nat) (hk : k + m.length ≤ l.length) (hm : ∀ i (h : i < m.length) j v, (ndC m[i])[j]? = some v → w.cell? (a.add (i * 5 + j)) = some v) :
    ∃ v' w', (Builtin.append_ #[TL, TL] ty #[.slice (some ⟨G, 0, none⟩) k cap, .slice (some a) m.length c]).run Try.prog w = .ok v' w' ∧ DelR w G cap (k + m.length) (l.take k ++ m) v' w' := by
  obtain ⟨i, hi, _, hs, _⟩ := info_parts Try.infoN
  obtain ⟨rest, hg, hrl⟩ := h.ex
  have hlc : (rows l ++ rest).length = cap * 5 := by rw [List.length_append, rows_len]; omega
  have hroom := h.room
  have hr := run_append_room (P := Try.prog) w TL ty TN i Try.underlying23 hi G k cap (rows l ++ rest).toArray hg a m.length c (rows m) (by rw [rows_len, hs]) (fun j v hv => by
    have hj : j < m.length * 5 := by rw [← rows_len]; exact (List.getElem?_eq_some_iff.1 hv).1
    have hd : j / 5 < m.length := by omega
    have e : j / 5 * 5 + j % 5 = j := by omega
    rw [← e, rows_get m (j / 5) (j % 5) hd (by omega)] at hv
    have := hm (j / 5) hd (j % 5) v hv
    rwa [e] at this) (rows_one m) (by omega) (by rw [hs, rows_len, List.size_toArray, hlc]; omega)
  refine ⟨_, _, hr, rfl, ⟨⟨(rows l ++ rest).drop (k * 5 + (rows m).length), ?_, ?_⟩, ?_, h.most⟩, fp_setRow w G _⟩
  · have := setRow_heap w G _ (((rows l ++ rest).take (k * i.size)) ++ rows m ++ (rows l ++ rest).drop (k * i.size + (rows m).length)).toArray TN _ hg
    rw [hs] at this
    rw [hs]
    rw [this]
    congr 2
    rw [rows_app, List.take_append_of_le_length (by rw [rows_len]; omega), rows_take]
  · rw [List.length_drop, hlc, rows_len, List.length_append, List.length_take]; omega
  · rw [List.length_append, List.length_take]; omega

/-- clear of what lies behind. -/
theorem clear_in {w : World} {G cap : Nat} {l : List Nd} (h : Nr w G cap l) (ty : TypeId) (n c : Nat) (h0 : 0 < n) (hn : l.length + n ≤ cap) :
    ∃ w', (Builtin.clear_ #[TL] ty #[.slice (some ⟨G, l.length * 5, none⟩) n c]).run Try.prog w = .ok (.tuple #[]) w' ∧ Nr w' G cap l ∧ Fp (fun j => j = G) w w' := by
  obtain ⟨rest, hg, hrl⟩ := h.ex
  have hlc : (rows l ++ rest).length = cap * 5 := by rw [List.length_append, rows_len]; omega
  obtain ⟨zs, hz, hr⟩ := run_clear_nodes w ty G (l.length * 5) n c (rows l ++ rest) hg (by rw [hlc]; omega) h0
  refine ⟨_, hr, ⟨⟨zs ++ (rows l ++ rest).drop (l.length * 5 + n * 5), ?_, ?_⟩, h.room, h.most⟩, fp_setRow w G _⟩
  · rw [setRow_heap w G _ _ TN _ hg]
    congr 2
    rw [← rows_len l, List.take_left, List.append_assoc]
  · rw [List.length_append, List.length_drop, hz, hlc]; omega

/-- In the midst of DeleteFunc: i that stay, of the j that were asked. -/
structure DfM (S : Nat → Prop) (q : Nd → Bool) (l : List Nd) (G cap : Nat) (w : World) (i j : Nat) (wr : World) : Prop where
  ex : ∃ m, Nr wr G cap m ∧ m.length = l.length ∧ m.take i = (l.take j).filter (fun n => !q n) ∧ m.drop j = l.drop j
  ij : i < j
  fp : Fp (fun k => k = G) w wr

theorem DfM.keep {S : Nat → Prop} {q : Nd → Bool} {l : List Nd} {G cap i j : Nat} {w wr w' : World} (h : DfM S q l G cap w i j wr) (f : Fp Non wr w') : DfM S q l G cap w i j w' := by
  obtain ⟨m, h1, h2⟩ := h.ex
  exact ⟨⟨m, h1.keep f (fun h => h), h2⟩, h.ij, h.fp.then f⟩
theorem take_step (l : List Nd) (j : Nat) (hj : j < l.length) (p : Nd → Bool) : (l.take (j + 1)).filter p = (l.take j).filter p ++ if p l[j] = true then [l[j]] else [] := by
  rw [List.take_succ_eq_append_getElem hj, List.filter_append]
  congr 1
  by_cases h : p l[j] = true <;> simp [h]
theorem DfM.gone {S : Nat → Prop} {q : Nd → Bool} {l : List Nd} {G cap i j : Nat} {w wr : World} (h : DfM S q l G cap w i j wr) (hj : j < l.length) (hq : q l[j] = true) : DfM S q l G cap w i (j + 1) wr := by
  obtain ⟨m, h1, h2, h3, h4⟩ := h.ex
  refine ⟨⟨m, h1, h2, ?_, ?_⟩, Nat.lt_succ_of_lt h.ij, h.fp⟩
  · rw [take_step l j hj, h3]; simp [hq]
  · have := congrArg (List.drop 1) h4
    rwa [List.drop_drop, List.drop_drop] at this
theorem DfM.stays {S : Nat → Prop} {q : Nd → Bool} {l : List Nd} {G cap i j : Nat} {w wr w' : World} (h : DfM S q l G cap w i j wr) (hj : j < l.length) (hq : q l[j] = false)
    (hs : ∀ m, Nr wr G cap m → i < m.length → Nr w' G cap (m.set i l[j])) (f : Fp (fun k => k = G) wr w') : DfM S q l G cap w (i + 1) (j + 1) w' := by
  obtain ⟨m, h1, h2, h3, h4⟩ := h.ex
  have hi := h.ij
  refine ⟨⟨m.set i l[j], hs m h1 (by omega), by rw [List.length_set, h2], ?_, ?_⟩, by omega, h.fp.same f⟩
  · rw [take_step l j hj, ← h3]
    simp only [hq, Bool.not_false, if_true]
    rw [List.take_succ_eq_append_getElem (by rw [List.length_set]; omega), List.getElem_set_self, List.take_set_of_le (Nat.le_refl _)]
  · rw [List.drop_set_of_lt (by omega)]
    have := congrArg (List.drop 1) h4
    rwa [List.drop_drop, List.drop_drop] at this
theorem DfM.cell {S : Nat → Prop} {q : Nd → Bool} {l : List Nd} {G cap i j : Nat} {w wr : World} (h : DfM S q l G cap w i j wr) (hj : j < l.length) : NdAt wr G (0 + j * 5) l[j] := by
  obtain ⟨m, h1, h2, h3, h4⟩ := h.ex
  have hm : j < m.length := by omega
  have e : m[j] = l[j] := by
    have h5 : (m.drop j)[0]? = (l.drop j)[0]? := by rw [h4]
    rw [List.getElem?_drop, List.getElem?_drop, List.getElem?_eq_getElem (by omega), List.getElem?_eq_getElem (by omega)] at h5
    exact Option.some.inj h5
  rw [← e]; exact h1.nd j hm
theorem DfM.there {S : Nat → Prop} {q : Nd → Bool} {l : List Nd} {G cap i j : Nat} {w wr : World} (h : DfM S q l G cap w i j wr) (hj : j ≤ l.length) : ∃ y, NdAt wr G (i * 5) y := by
  obtain ⟨m, h1, h2, h3, h4⟩ := h.ex
  have hi := h.ij
  have := h1.nd i (by omega)
  rw [Nat.zero_add] at this
  exact ⟨_, this⟩
theorem DfM.frozen {S : Nat → Prop} {q : Nd → Bool} {l : List Nd} {G cap i j : Nat} {w wr : World} (h : DfM S q l G cap w i j wr) (o : Nat) : wr.frozen? ⟨G, o, none⟩ = false := by
  obtain ⟨m, h1, _⟩ := h.ex; exact h1.frozen o
/-- A node stored into a row. -/
theorem rows_set (l : List Nd) (i : Nat) (hi : i < l.length) (x : Nd) (rest : List Value) : (((((rows l ++ rest).set (i * 5) (strV x.path)).set (i * 5 + 1) (strV x.data)).set (i * 5 + 2) (.int .i64 x.ver)).set (i * 5 + 3) (.int .i64 x.turn)).set (i * 5 + 4) (.int .i64 x.own) = rows (l.set i x) ++ rest := by
  induction l generalizing i with
  | nil => simp at hi
  | cons a l ih =>
    cases i with
    | zero => rw [List.set_cons_zero, rows_cons, rows_cons]; simp [ndC]
    | succ i =>
      rw [List.set_cons_succ, rows_cons, rows_cons, List.append_assoc, List.append_assoc, ← ih i (by simpa using hi)]
      simp only [show (i + 1) * 5 = 5 + i * 5 from by omega, show ∀ j, 5 + i * 5 + j = 5 + (i * 5 + j) from fun j => by omega]
      have e : ∀ (j : Nat) (v : Value) (m : List Value), (ndC a ++ m).set (5 + j) v = ndC a ++ m.set j v := fun j v m => by
        rw [List.set_append_right _ _ (by rw [ndC_len]; omega), ndC_len, Nat.add_sub_cancel_left]
      rw [e, e, e, e, e]
theorem Nr.put {w : World} {G cap : Nat} {l : List Nd} (h : Nr w G cap l) (i : Nat) (hi : i < l.length) (x : Nd) :
    Nr (((((w.setCell ⟨G, i * 5, none⟩ (strV x.path)).setCell ⟨G, i * 5 + 1, none⟩ (strV x.data)).setCell ⟨G, i * 5 + 2, none⟩ (.int .i64 x.ver)).setCell ⟨G, i * 5 + 3, none⟩ (.int .i64 x.turn)).setCell ⟨G, i * 5 + 4, none⟩ (.int .i64 x.own)) G cap (l.set i x) := by
  obtain ⟨rest, hg, hrl⟩ := h.ex
  have h1 := heap_setCell_same w G (i * 5) _ TN (strV x.path) hg
  have h2 := heap_setCell_same _ G (i * 5 + 1) _ TN (strV x.data) h1
  have h3 := heap_setCell_same _ G (i * 5 + 2) _ TN (.int .i64 x.ver) h2
  have h4 := heap_setCell_same _ G (i * 5 + 3) _ TN (.int .i64 x.turn) h3
  have h5 := heap_setCell_same _ G (i * 5 + 4) _ TN (.int .i64 x.own) h4
  refine ⟨⟨rest, ?_, by rw [List.length_set]; exact hrl⟩, by rw [List.length_set]; exact h.room, h.most⟩
  rw [h5, ← rows_set l i hi x rest]
  simp [List.setIfInBounds_toArray]
theorem fp_put {S : Nat → Prop} {a w : World} (f : Fp S a w) {b : Nat} (hb : S b ∨ a.heap.size ≤ b) (o : Nat) (v0 v1 v2 v3 v4 : Value) :
    Fp S a (((((w.setCell ⟨b, o, none⟩ v0).setCell ⟨b, o + 1, none⟩ v1).setCell ⟨b, o + 2, none⟩ v2).setCell ⟨b, o + 3, none⟩ v3).setCell ⟨b, o + 4, none⟩ v4) :=
  ((((f.setCell (p := ⟨b, o, none⟩) hb v0).setCell (p := ⟨b, o + 1, none⟩) hb v1).setCell (p := ⟨b, o + 2, none⟩) hb v2).setCell (p := ⟨b, o + 3, none⟩) hb v3).setCell (p := ⟨b, o + 4, none⟩) hb v4
end Go.Proofs.Ytlmfinpmlilcgaa

/- slices.DeleteFunc at nodes. -/
namespace Go.Proofs.Ytlmfinpmlilcgaa
set_option maxRecDepth 20000
open Go.RowKit Pm

theorem none_filter {q : Nd → Bool} {l : List Nd} (h : ∀ n ∈ l, q n = false) : l.filter (fun n => !q n) = l := by
  rw [List.filter_eq_self]; intro n hn; simp [h n hn]
theorem first_filter {q : Nd → Bool} {l : List Nd} {i : Nat} (hi : i < l.length) (hq : q l[i] = true) (h : ∀ j (hj : j < l.length), j < i → q l[j] = false) : (l.take (i + 1)).filter (fun n => !q n) = l.take i := by
  rw [take_step l i hi, hq, none_filter]
  · simp
  · intro n hn
    obtain ⟨j, hj, rfl⟩ := List.getElem_of_mem hn
    rw [List.length_take] at hj
    rw [List.getElem_take]; exact h j (by omega) (by omega)

theorem Nr.take {w : World} {G cap : Nat} {l : List Nd} (h : Nr w G cap l) (k : Nat) : Nr w G cap (l.take k) := by
  obtain ⟨rest, hg, hl⟩ := h.ex
  refine ⟨⟨rows (l.drop k) ++ rest, ?_, ?_⟩, by have := h.room; rw [List.length_take]; omega, h.most⟩
  · rw [← List.append_assoc, ← rows_app, List.take_append_drop]; exact hg
  · rw [List.length_append, rows_len, List.length_take, List.length_drop]; omega
/-- What DeleteFunc leaves. -/
structure DfR (w : World) (G cap : Nat) (l : List Nd) (v' : Value) (w' : World) : Prop where
  v : v' = .slice (some ⟨G, 0, none⟩) l.length cap
  row : Nr w' G cap l
  fp : Fp (fun k => k = G) w w'

end Go.Proofs.Ytlmfinpmlilcgaa

/- A store's nodes: rows of the call's own that may be none at all; Clone, Insert, Delete at them. -/
namespace Go.Proofs.Ytlmfinpmlilcgaa
set_option maxRecDepth 20000
open Go.RowKit Pm

/-- Nodes of the call's own, from block lo on; they may be none at all. -/
def Ow (lo : Nat) (w : World) (v : Value) (l : List Nd) : Prop := w.ownsRow lo TN 5 v l.length (rows l)
theorem Ow.ways {lo : Nat} {w : World} {v : Value} {l : List Nd} (h : Ow lo w v l) : (v = .slice none 0 0 ∧ l = []) ∨ ∃ G cap, v = .slice (some ⟨G, 0, none⟩) l.length cap ∧ Nr w G cap l ∧ lo ≤ G := by
  have h' := h
  unfold Ow at h'
  rcases h'.2 with ⟨h0, h1⟩ | ⟨g, cap, cur, e, hb, hg, h1, h2, h3, h4⟩
  · refine .inl ⟨h0, ?_⟩
    cases l with
    | nil => rfl
    | cons x l => simp at h1
  · refine .inr ⟨g, cap, e, ?_⟩
    unfold Ow at h
    rw [e] at h
    exact Nr.of_owns h rfl
theorem Ow.ns {lo : Nat} {w : World} {v : Value} {l : List Nd} (h : Ow lo w v l) : Ns w v l := by
  rcases h.ways with ⟨rfl, rfl⟩ | ⟨G, cap, rfl, h1, _⟩
  · exact Ns.nil w
  · exact h1.ns
theorem Ow.row {lo : Nat} {w : World} {G cap : Nat} {l : List Nd} (h : Nr w G cap l) (hlo : lo ≤ G) : Ow lo w (.slice (some ⟨G, 0, none⟩) l.length cap) l := h.owns hlo
theorem Ow.nil (lo : Nat) (w : World) : Ow lo w (.slice none 0 0) [] := ⟨rfl, .inl ⟨rfl, rfl⟩⟩
theorem Ow.keep {lo : Nat} {w w' : World} {v : Value} {l : List Nd} (h : Ow lo w v l) {S : Nat → Prop} (f : Fp S w w') (hS : ∀ k, v.ownBlock = some k → ¬ S k) : Ow lo w' v l := by
  rcases h.ways with ⟨rfl, rfl⟩ | ⟨G, cap, rfl, h1, h2⟩
  · exact Ow.nil lo w'
  · exact Ow.row (h1.keep f (hS G rfl)) h2
theorem Ow.non {lo : Nat} {w w' : World} {v : Value} {l : List Nd} (h : Ow lo w v l) (f : Fp Non w w') : Ow lo w' v l := h.keep f (fun _ _ h => h)
theorem Ow.low {lo : Nat} {w : World} {v : Value} {l : List Nd} (h : Ow lo w v l) : ∀ k, v.ownBlock = some k → lo ≤ k := by
  rcases h.ways with ⟨rfl, rfl⟩ | ⟨G, cap, rfl, _, h2⟩
  · intro k hk; simp [Value.ownBlock] at hk
  · intro k hk; simp [Value.ownBlock] at hk; omega

/-- Some slice of nodes behind nodes of the call's own, all cases. -/
theorem app_own (w : World) (lo : Nat) (v : Value) (l m : List Nd) (ty : TypeId) (a : Addr) (n c : Nat) (hv : Ow lo w v l) (hn : n = m.length) (hx : ∀ i (h : i < m.length) j u, (ndC m[i])[j]? = some u → w.cell? (a.add (i * 5 + j)) = some u) (h6 : l.length + m.length ≤ 100000) (hlo : lo ≤ w.heap.size) :
    ∃ v' w', (Builtin.append_ #[TL, TL] ty #[v, .slice (some a) n c]).run Try.prog w = .ok v' w' ∧ Ow lo w' v' (l ++ m) ∧ w.grownBy w' v.ownBlock ∧ ∀ k, v'.ownBlock = some k → v.ownBlock = some k ∨ w.heap.size ≤ k := by
  obtain ⟨i, hi, hz, hsz, hby⟩ := info_parts Try.infoN
  subst hn
  obtain ⟨v', w', hr, h4, h5, _, h8⟩ := run_append_own_at (P := Try.prog) w lo TL ty TN i _ 5 56 Try.underlying23 hi hz hsz hby rfl (by decide) v l.length (rows l) hv a m.length c (rows m) (rows_len m)
    (fun j u hu => by
      have hj : j < m.length * 5 := by rw [← rows_len]; exact (List.getElem?_eq_some_iff.1 hu).1
      have hd : j / 5 < m.length := by omega
      have e : j / 5 * 5 + j % 5 = j := by omega
      rw [← e, rows_get m (j / 5) (j % 5) hd (by omega)] at hu
      have := hx (j / 5) hd (j % 5) u hu
      rwa [e] at this)
    (rows_one m) (by unfold maxLen; omega) (by omega) hlo
  refine ⟨v', w', hr, ?_, h5, fun k hk => ?_⟩
  · unfold Ow
    rw [rows_app, List.length_append]; exact h4
  · rcases h8 with e | e
    · exact .inl (by rw [← e]; exact hk)
    · rw [hk] at e; injection e with e; exact .inr (by omega)

/-- Nodes of the call's own, behind one call. -/
structure OwR (w : World) (l : List Nd) (v' : Value) (w' : World) : Prop where
  own : Ow w.heap.size w' v' l
  fp : Fp Non w w'

/-- What a change of nodes of the call's own leaves. -/
structure ChR (lo : Nat) (w : World) (v : Value) (l : List Nd) (v' : Value) (w' : World) : Prop where
  own : Ow lo w' v' l
  fp : Fp (fun k => v.ownBlock = some k) w w'
  new : ∀ k, v'.ownBlock = some k → v.ownBlock = some k ∨ w.heap.size ≤ k

end Go.Proofs.Ytlmfinpmlilcgaa

/- Plain lists: stores of nodes and turns, parts of operations, what a part makes of a store. Nothing of the program. -/
namespace Go.Proofs.Ytlmfinpmlilcgaa
set_option maxRecDepth 20000
namespace Pm

structure Tu where
  dir : Bs
  next : Int
deriving DecidableEq

structure St where
  nodes : List Nd
  turns : List Tu
deriving DecidableEq

structure Pt where
  kind : Int
  dir : Bs
  path : Bs
  data : Bs
  ver : Int
  own : Int
  turns : Bool
deriving DecidableEq

/-- A path's parent; of the root the root. -/
def upB (p : Bs) : Bs := (parent p).getD [47]
/-- Whose keeper executes parts of that kind. -/
def keptAt (k : Int) (p : Bs) : Bs := if k = 4 ∨ k = 9 ∨ k = 10 then p else upB p

/-- May a part be? -/
def mayP (x : Pt) : Bool :=
  decide (1 ≤ x.kind ∧ x.kind ≤ 10) && (split x.path).isSome && decide (x.dir = keptAt x.kind x.path) && decide (¬ (x.kind = 2 ∧ x.path = [47])) &&
  decide (x.data.length ≤ 256 ∧ -1 ≤ x.ver ∧ x.ver ≤ 281474976710656 ∧ 0 ≤ x.own ∧ x.own ≤ 1099511627776)

/-- May a node stand in a store? (as the program reads it: see REPORT.md) -/
def sfit (n : Nd) : Bool :=
  (split n.path).isSome && decide (n.data.length ≤ 256 ∧ n.turn = 0 ∧ ¬ (n.path = [47] ∧ n.own ≠ 0) ∧ 0 ≤ n.ver ∧ n.ver ≤ 281474976710656 ∧ 0 ≤ n.own ∧ n.own ≤ 1099511627776)
def tfit (t : Tu) : Bool := (split t.dir).isSome && decide (1 ≤ t.next ∧ t.next ≤ 10000)

/-- Rising turns. -/
def AscT (l : List Tu) : Prop := ∀ i j (hi : i < l.length) (hj : j < l.length), i < j → lt l[i].dir l[j].dir = true
structure StR (s : St) : Prop where
  fit : ∀ n ∈ s.nodes, sfit n = true
  asc : Asc s.nodes
  tfit : ∀ t ∈ s.turns, tfit t = true
  tasc : AscT s.turns
open Classical in
noncomputable def rightS (s : St) : Bool := decide (StR s)
theorem rightS_iff (s : St) : rightS s = true ↔ StR s := by unfold rightS; simp
theorem rightS_true {s : St} (h : StR s) : rightS s = true := by unfold rightS; simp [h]
theorem rightS_false {s : St} (h : ¬ StR s) : rightS s = false := by unfold rightS; simp [h]

/-- The turn of a directory. -/
def findT (l : List Tu) (p : Bs) : Option Tu := l.find? (fun t => t.dir == p)
def turnOf (l : List Tu) (p : Bs) : Int := ((findT l p).map Tu.next).getD 0
def placeT (l : List Tu) (p : Bs) : Nat := l.countP (fun t => lt t.dir p)
def insT (l : List Tu) (k : Nat) (x : Tu) : List Tu := l.take k ++ x :: l.drop k
/-- A directory has another turn; of 0 nothing stands there. -/
def setT (l : List Tu) (p : Bs) (n : Int) : List Tu :=
  let l1 := if (findT l p).isSome = true then l.eraseIdx (placeT l p) else l
  if n ≠ 0 then insT l1 (placeT l p) ⟨p, n⟩ else l1

def okR : Res := ⟨0, [], [], 0, []⟩
def versionedP (k : Int) : Bool := k == 3 || k == 5 || k == 6
/-- The path of the node that a Put adds. -/
def newPath (s : St) (x : Pt) : Option Bs := if x.turns = true then (numbered (last x.path) (turnOf s.turns x.dir)).bind (join x.dir) else some x.path
def putS (s : St) (x : Pt) : St × Res :=
  match newPath s x with
  | none => (s, .bad 66)
  | some q => if (find s.nodes q).isSome = true then (s, .bad 61) else
      (⟨ins s.nodes (place s.nodes q) ⟨q, x.data, 0, 0, x.own⟩, if x.turns = true then setT s.turns x.dir (turnOf s.turns x.dir + 1) else s.turns⟩, ⟨0, q, [], 0, []⟩)
def cleared (x : Pt) (n : Nd) : Bool := n.own == x.own && parent n.path == some x.path
def doP (s : St) (x : Pt) : St × Res :=
  if x.kind = 2 then putS s x
  else if x.kind = 4 then (if kids s.nodes x.path = [] then (⟨s.nodes, setT s.turns x.path 0⟩, okR) else (s, .bad 64))
  else if x.kind = 9 then (s, ⟨0, [], [], 0, (kids s.nodes x.path).map (fun n => last n.path)⟩)
  else if x.kind = 10 then (⟨s.nodes.filter (fun n => !cleared x n), s.turns⟩, ⟨0, [], [], 0, (s.nodes.filter (cleared x)).map (fun n => last n.path)⟩)
  else match find s.nodes x.path with
    | none => (s, .bad 62)
    | some n => if versionedP x.kind = true ∧ 0 ≤ x.ver ∧ x.ver ≠ n.ver then (s, .bad 63)
      else if x.kind = 1 then (if n.own ≠ 0 then (s, .bad 65) else (s, okR))
      else if x.kind = 3 then (⟨s.nodes.eraseIdx (place s.nodes x.path), s.turns⟩, okR)
      else if x.kind = 5 then (if n.ver = 281474976710656 then (s, .bad 2) else (⟨s.nodes.set (place s.nodes x.path) { n with data := x.data, ver := n.ver + 1 }, s.turns⟩, ⟨0, [], [], n.ver + 1, []⟩))
      else if x.kind = 6 then (s, ⟨0, [], [], n.ver, []⟩)
      else if x.kind = 7 then (s, ⟨0, [], n.data, n.ver, []⟩)
      else (s, okR)
noncomputable def applyP (s : St) (x : Pt) : St × Res := if rightS s && mayP x then doP s x else (⟨[], []⟩, .bad 1)

theorem applyP_no {s : St} {x : Pt} (h : ¬ (rightS s = true ∧ mayP x = true)) : applyP s x = (⟨[], []⟩, .bad 1) := by
  unfold applyP; rw [if_neg]; simpa [Bool.and_eq_true] using h
theorem applyP_yes {s : St} {x : Pt} (h : StR s) (k : mayP x = true) : applyP s x = doP s x := by
  unfold applyP; rw [if_pos]; rw [rightS_true h, k]; rfl

/-- What is asked alone changes nothing. -/
theorem doP_asks {s : St} {x : Pt} (h : x.kind = 1 ∨ x.kind = 6 ∨ x.kind = 7 ∨ x.kind = 8 ∨ x.kind = 9) : (doP s x).1 = s := by
  unfold doP
  rcases h with h | h | h | h | h <;> simp only [h]
  · cases find s.nodes x.path with
    | none => simp
    | some n => simp [versionedP]; split <;> rfl
  · cases find s.nodes x.path with
    | none => simp
    | some n => simp only [versionedP]; simp; split <;> rfl
  · cases find s.nodes x.path with
    | none => simp
    | some n => simp [versionedP]
  · cases find s.nodes x.path with
    | none => simp
    | some n => simp [versionedP]
  · simp
/-- An error changes nothing, and is never 1. -/
theorem doP_err (s : St) (x : Pt) : (doP s x).2.err ≠ 1 ∧ ((doP s x).2.err ≠ 0 → (doP s x).1 = s ∧ (doP s x).2 = .bad (doP s x).2.err) := by
  have bad : ∀ e : Int, e ≠ 1 → ((s, Res.bad e).2.err ≠ 1 ∧ ((s, Res.bad e).2.err ≠ 0 → (s, Res.bad e).1 = s ∧ (s, Res.bad e).2 = .bad (s, Res.bad e).2.err)) := fun e h => ⟨h, fun _ => ⟨rfl, rfl⟩⟩
  have good : ∀ (t : St) (r : Res), r.err = 0 → ((t, r).2.err ≠ 1 ∧ ((t, r).2.err ≠ 0 → (t, r).1 = s ∧ (t, r).2 = .bad (t, r).2.err)) := fun t r h => ⟨by rw [show (t, r).2 = r from rfl, h]; decide, fun k => absurd h k⟩
  unfold doP
  split
  · unfold putS
    split
    · exact bad _ (by decide)
    · split
      · exact bad _ (by decide)
      · exact good _ _ rfl
  split
  · split
    · exact good _ _ rfl
    · exact bad _ (by decide)
  split
  · exact good _ _ rfl
  split
  · exact good _ _ rfl
  split
  · exact bad _ (by decide)
  split
  · exact bad _ (by decide)
  split
  · split
    · exact bad _ (by decide)
    · exact good _ _ rfl
  split
  · exact good _ _ rfl
  split
  · split
    · exact bad _ (by decide)
    · exact good _ _ rfl
  split
  · exact good _ _ rfl
  split
  · exact good _ _ rfl
  · exact good _ _ rfl

/-- The parts of an operation. -/
def partsOf (o : Opn) : List Pt :=
  if may o = true then
    (if o.kind = 1 then [⟨1, upB (upB o.path), upB o.path, [], 0, 0, false⟩, ⟨2, upB o.path, o.path, o.data, 0, o.own, o.turns⟩]
    else if o.kind = 2 then [⟨3, upB o.path, o.path, [], o.ver, 0, false⟩, ⟨4, o.path, o.path, [], 0, 0, false⟩]
    else if o.kind = 3 then [⟨5, upB o.path, o.path, o.data, o.ver, 0, false⟩]
    else if o.kind = 4 then [⟨6, upB o.path, o.path, [], o.ver, 0, false⟩]
    else if o.kind = 5 then [⟨7, upB o.path, o.path, [], 0, 0, false⟩]
    else if o.kind = 6 then [⟨8, upB o.path, o.path, [], 0, 0, false⟩, ⟨9, o.path, o.path, [], 0, 0, false⟩]
    else [⟨8, upB o.path, o.path, [], 0, 0, false⟩, ⟨10, o.path, o.path, [], 0, o.own, false⟩])
  else []
theorem partsOf_len (o : Opn) : decide (0 < (partsOf o).length) = may o := by
  unfold partsOf
  cases may o <;> simp
  split <;> (try simp)
  split <;> (try simp)
  split <;> (try simp)
  split <;> (try simp)
  split <;> (try simp)
  split <;> simp

theorem upB_ok (p : Bs) : (split (upB p)).isSome = true := by
  unfold upB
  cases h : parent p with
  | none => rfl
  | some u =>
    simp only [Option.getD_some]
    obtain ⟨ps, hs, hj, _⟩ := parent_some h
    unfold join at hj
    cases hu : split u with
    | none => rw [hu] at hj; cases hj
    | some _ => rfl
end Pm
end Go.Proofs.Ytlmfinpmlilcgaa

/- Plain lists: what a part makes of a right store is one; parts of operations may be. Nothing of the program. -/
namespace Go.Proofs.Ytlmfinpmlilcgaa
set_option maxRecDepth 20000
namespace Pm

/-- A turn as a node: what is known of rising nodes is known of rising turns. -/
def tn (t : Tu) : Nd := ⟨t.dir, [], 0, t.next, 0⟩
theorem tn_inj {a b : Tu} (h : tn a = tn b) : a = b := by
  obtain ⟨_, _⟩ := a; obtain ⟨_, _⟩ := b
  unfold tn at h; injection h with h1 _ _ h2 _; subst h1 h2; rfl
theorem ascT_iff {l : List Tu} : AscT l ↔ Asc (l.map tn) := by
  constructor
  · intro h i j hi hj hij
    simp only [List.length_map] at hi hj
    simp only [List.getElem_map]
    exact h i j hi hj hij
  · intro h i j hi hj hij
    have := h i j (by simpa using hi) (by simpa using hj) hij
    simp only [List.getElem_map] at this
    exact this
theorem find_tn (l : List Tu) (p : Bs) : find (l.map tn) p = (findT l p).map tn := by
  unfold find findT
  rw [List.find?_map]; rfl
theorem place_tn (l : List Tu) (p : Bs) : place (l.map tn) p = placeT l p := by
  unfold place placeT
  rw [List.countP_map]; rfl
theorem ins_tn (l : List Tu) (k : Nat) (x : Tu) : (insT l k x).map tn = ins (l.map tn) k (tn x) := by
  unfold insT ins
  rw [List.map_append, List.map_cons, List.map_take, List.map_drop]
theorem erase_tn : ∀ (l : List Tu) (k : Nat), (l.eraseIdx k).map tn = (l.map tn).eraseIdx k
  | [], k => by simp
  | a :: l, 0 => rfl
  | a :: l, k + 1 => by rw [List.eraseIdx_cons_succ, List.map_cons, List.map_cons, List.eraseIdx_cons_succ, erase_tn l k]
theorem map_tn_inj : ∀ {a b : List Tu}, a.map tn = b.map tn → a = b
  | [], [], _ => rfl
  | [], _ :: _, h => by cases h
  | _ :: _, [], h => by cases h
  | x :: a, y :: b, h => by
    rw [List.map_cons, List.map_cons] at h
    injection h with h1 h2
    rw [tn_inj h1, map_tn_inj h2]
theorem findT_none {l : List Tu} {p : Bs} : findT l p = none ↔ ∀ t ∈ l, t.dir ≠ p := by
  unfold findT; rw [List.find?_eq_none]; simp
theorem findT_mem {l : List Tu} {p : Bs} {t : Tu} (h : findT l p = some t) : t ∈ l ∧ t.dir = p := by
  unfold findT at h
  exact ⟨List.mem_of_find?_eq_some h, by simpa using List.find?_some h⟩

/-- Taken away: nothing of its directory is left, and the place is the same one. -/
theorem eraseT {l : List Tu} (h : AscT l) {p : Bs} {t : Tu} (ht : findT l p = some t) : l.eraseIdx (placeT l p) = l.filter (fun t => t.dir != p) := by
  have hA := ascT_iff.1 h
  have hf : find (l.map tn) p = some (tn t) := by rw [find_tn, ht]; rfl
  have e := filter_erase hA hf
  rw [place_tn, ← erase_tn, List.filter_map] at e
  exact (map_tn_inj e)
theorem ascT_filter {l : List Tu} (h : AscT l) (q : Tu → Bool) : AscT (l.filter q) := by
  have : l.Pairwise (fun a b => lt a.dir b.dir = true) := by rw [List.pairwise_iff_getElem]; exact h
  have h2 := this.filter q
  rw [List.pairwise_iff_getElem] at h2; exact h2
theorem placeT_filter {l : List Tu} (p : Bs) : placeT (l.filter (fun t => t.dir != p)) p = placeT l p := by
  unfold placeT
  rw [List.countP_filter]
  apply List.countP_congr
  intro t _
  simp only [Bool.and_eq_true, bne_iff_ne]
  constructor
  · exact fun k => k.1
  · exact fun k => ⟨k, lt_ne k⟩
theorem ascT_ins {l : List Tu} (h : AscT l) {p : Bs} (n : Int) (hn : findT l p = none) : AscT (insT l (placeT l p) ⟨p, n⟩) := by
  rw [ascT_iff, ins_tn, ← place_tn]
  exact (ascT_iff.1 h).ins (tn ⟨p, n⟩) (by rw [show (tn ⟨p, n⟩).path = p from rfl, find_tn, hn]; rfl)
theorem mem_insT {l : List Tu} {k : Nat} {x y : Tu} (h : y ∈ insT l k x) : y = x ∨ y ∈ l := by
  unfold insT at h
  rw [List.mem_append, List.mem_cons] at h
  rcases h with h | h | h
  · exact .inr (List.mem_of_mem_take h)
  · exact .inl h
  · exact .inr (List.mem_of_mem_drop h)

/-- The directory's turn, anew: by a filter. -/
theorem setT_eq {l : List Tu} (h : AscT l) (p : Bs) (n : Int) : setT l p n = if n ≠ 0 then insT (l.filter (fun t => t.dir != p)) (placeT (l.filter (fun t => t.dir != p)) p) ⟨p, n⟩ else l.filter (fun t => t.dir != p) := by
  unfold setT
  rw [placeT_filter]
  cases hf : findT l p with
  | some t => simp only [Option.isSome_some, if_true]; rw [eraseT h hf]
  | none =>
    have : l.filter (fun t => t.dir != p) = l := by rw [List.filter_eq_self]; intro t ht; simpa using findT_none.1 hf t ht
    simp only [Option.isSome_none, Bool.false_eq_true, if_false]; rw [this]
theorem setT_right {l : List Tu} (h : AscT l) (hf : ∀ t ∈ l, tfit t = true) {p : Bs} {n : Int} (hp : (split p).isSome = true) (h0 : 0 ≤ n) (h1 : n ≤ 10000) :
    AscT (setT l p n) ∧ ∀ t ∈ setT l p n, tfit t = true := by
  rw [setT_eq h]
  have hA := ascT_filter h (fun t => t.dir != p)
  have hn : findT (l.filter (fun t => t.dir != p)) p = none := by
    rw [findT_none]; intro t ht; have := (List.mem_filter.1 ht).2; simpa using this
  split
  · rename_i hne
    refine ⟨ascT_ins hA n hn, fun t ht => ?_⟩
    rcases mem_insT ht with rfl | ht
    · unfold tfit; simp only [hp, Bool.true_and, decide_eq_true_eq]; omega
    · exact hf t (List.mem_filter.1 ht).1
  · exact ⟨hA, fun t ht => hf t (List.mem_filter.1 ht).1⟩
theorem turnOf_bounds {l : List Tu} (hf : ∀ t ∈ l, tfit t = true) (p : Bs) : 0 ≤ turnOf l p ∧ turnOf l p ≤ 10000 := by
  unfold turnOf
  cases h : findT l p with
  | none => simp
  | some t =>
    have := hf t (findT_mem h).1
    unfold tfit at this
    simp only [Bool.and_eq_true, decide_eq_true_eq] at this
    simp only [Option.map_some, Option.getD_some]; omega

theorem sfit_iff (n : Nd) : sfit n = true ↔ (split n.path).isSome = true ∧ n.data.length ≤ 256 ∧ n.turn = 0 ∧ ¬ (n.path = [47] ∧ n.own ≠ 0) ∧ 0 ≤ n.ver ∧ n.ver ≤ 281474976710656 ∧ 0 ≤ n.own ∧ n.own ≤ 1099511627776 := by
  unfold sfit; rw [Bool.and_eq_true, decide_eq_true_eq]
theorem mayP_iff (x : Pt) : mayP x = true ↔ (1 ≤ x.kind ∧ x.kind ≤ 10) ∧ (split x.path).isSome = true ∧ x.dir = keptAt x.kind x.path ∧ ¬ (x.kind = 2 ∧ x.path = [47]) ∧ x.data.length ≤ 256 ∧ -1 ≤ x.ver ∧ x.ver ≤ 281474976710656 ∧ 0 ≤ x.own ∧ x.own ≤ 1099511627776 := by
  unfold mayP; simp only [Bool.and_eq_true, decide_eq_true_eq, and_assoc]
end Pm
end Go.Proofs.Ytlmfinpmlilcgaa

/- Plain lists: what the laws of layer 7 say of stores and parts. Nothing of the program. -/
namespace Go.Proofs.Ytlmfinpmlilcgaa
set_option maxRecDepth 20000
namespace Pm

theorem newPath_some {s : St} {x : Pt} {q : Bs} (hm : mayP x = true) (hk : x.kind = 2) (h : newPath s x = some q) :
    (split q).isSome = true ∧ q ≠ [47] ∧ parent q = some x.dir ∧ (x.turns = true → turnOf s.turns x.dir ≤ 9999) := by
  obtain ⟨_, hp, hd, hr, _⟩ := (mayP_iff x).1 hm
  have hdir : x.dir = upB x.path := by rw [hd, hk]; rfl
  unfold newPath at h
  split at h
  · cases hn : numbered (last x.path) (turnOf s.turns x.dir) with
    | none => rw [hn] at h; cases h
    | some y =>
      rw [hn] at h
      obtain ⟨cs, h1, h2, _⟩ := join_some (show join x.dir y = some q from h)
      exact ⟨by rw [h1]; rfl, parent_ne_root h2, h2, fun _ => (numbered_turn hn).2⟩
  · rename_i ht
    obtain rfl := Option.some.inj h
    have hne : x.path ≠ [47] := fun e => hr ⟨hk, e⟩
    refine ⟨hp, hne, ?_, fun k => absurd k ht⟩
    cases hpp : parent x.path with
    | none => have := (parent_none hpp).1; rw [hp] at this; exact absurd (by simpa using this.symm) hne
    | some u => rw [hdir]; unfold upB; rw [hpp]; rfl

theorem mayP_mk {k : Int} {d q data : Bs} {ver own : Int} {t : Bool} (hk : 1 ≤ k ∧ k ≤ 10) (hs : (split q).isSome = true) (hd : d = keptAt k q) (hr : ¬ (k = 2 ∧ q = [47]))
    (h1 : data.length ≤ 256) (h2 : -1 ≤ ver) (h3 : ver ≤ 281474976710656) (h4 : 0 ≤ own) (h5 : own ≤ 1099511627776) : mayP ⟨k, d, q, data, ver, own, t⟩ = true :=
  (mayP_iff _).2 ⟨hk, hs, hd, hr, h1, h2, h3, h4, h5⟩
theorem StR.put {s : St} (h : StR s) {x : Pt} (hm : mayP x = true) (hk : x.kind = 2) : StR (putS s x).1 := by
  obtain ⟨_, hp, hd, hr, hl⟩ := (mayP_iff x).1 hm
  unfold putS
  split
  · exact h
  · rename_i q hq
    obtain ⟨h1, h2, h3, h4⟩ := newPath_some hm hk hq
    split
    · exact h
    · rename_i hf
      have hn : find s.nodes q = none := by simpa using hf
      have hdv : (split x.dir).isSome = true := by rw [hd, hk]; exact upB_ok _
      have htb := turnOf_bounds h.tfit x.dir
      have hT : AscT (if x.turns = true then setT s.turns x.dir (turnOf s.turns x.dir + 1) else s.turns) ∧ ∀ t ∈ (if x.turns = true then setT s.turns x.dir (turnOf s.turns x.dir + 1) else s.turns), Pm.tfit t = true := by
        split
        · rename_i ht; exact setT_right h.tasc h.tfit hdv (by omega) (by have := h4 ht; omega)
        · exact ⟨h.tasc, h.tfit⟩
      refine ⟨fun n hn' => ?_, ?_, hT.2, hT.1⟩
      · rcases mem_ins.1 hn' with rfl | k
        · rw [sfit_iff]; exact ⟨h1, hl.1, rfl, fun k => h2 k.1, Int.le_refl 0, (show (0 : Int) ≤ 281474976710656 by decide), hl.2.2.2.1, hl.2.2.2.2⟩
        · exact h.fit n k
      · exact h.asc.ins ⟨q, x.data, 0, 0, x.own⟩ hn

theorem mem_erase {l : List Nd} {k : Nat} {n : Nd} (h : n ∈ l.eraseIdx k) : n ∈ l := List.mem_of_mem_eraseIdx h
theorem StR.doP {s : St} (h : StR s) {x : Pt} (hm : mayP x = true) : StR (Pm.doP s x).1 := by
  obtain ⟨hk, hp, hd, hr, hl⟩ := (mayP_iff x).1 hm
  unfold Pm.doP
  split
  · rename_i k; exact h.put hm k
  split
  · split
    · have := setT_right h.tasc h.tfit hp (Int.le_refl 0) (by decide)
      exact ⟨h.fit, h.asc, this.2, this.1⟩
    · exact h
  split
  · exact h
  split
  · exact ⟨fun n hn => h.fit n (List.mem_filter.1 hn).1, h.asc.filter _, h.tfit, h.tasc⟩
  split
  · exact h
  · rename_i n hf
    split
    · exact h
    split
    · split <;> exact h
    split
    · refine ⟨fun m hm => h.fit m (mem_erase hm), ?_, h.tfit, h.tasc⟩
      show Asc (s.nodes.eraseIdx (place s.nodes x.path))
      rw [filter_erase h.asc hf]; exact h.asc.filter _
    split
    · split
      · exact h
      · rename_i hv
        obtain ⟨hk2, e⟩ := find_at h.asc hf
        have hn := (sfit_iff n).1 (h.fit n (find_mem hf).1)
        refine ⟨fun m hm => ?_, h.asc.set hk2 _ (by rw [e]), h.tfit, h.tasc⟩
        rcases List.mem_or_eq_of_mem_set hm with k | rfl
        · exact h.fit m k
        · rw [sfit_iff]
          obtain ⟨a1, a2, a3, a4, a5, a6, a7, a8⟩ := hn
          exact ⟨a1, hl.1, a3, a4, by simp only; omega, by simp only; omega, a7, a8⟩
    split
    · exact h
    split
    · exact h
    · exact h

/-- Put, and asked, put again, removed. -/
theorem puts {s : St} (h : StR s) {x : Pt} (hm : mayP x = true) (hk : x.kind = 2) (he : (putS s x).2.err = 0) :
    ∃ a q, putS s x = (a, ⟨0, q, [], 0, []⟩) ∧ StR a ∧ q.length ≤ 100 ∧ a.nodes.length = s.nodes.length + 1 ∧
      applyP a ⟨7, x.dir, q, [], 0, 0, false⟩ = (a, ⟨0, [], x.data, 0, []⟩) ∧ applyP a ⟨2, x.dir, q, [], 0, 0, false⟩ = (a, .bad 61) ∧
      ∃ c, applyP a ⟨3, x.dir, q, [], 0, 0, false⟩ = (c, okR) ∧ c.nodes = s.nodes := by
  have hR := h.put hm hk
  unfold putS at he hR ⊢
  cases hq : newPath s x with
  | none => rw [hq] at he; simp [Res.bad] at he
  | some q =>
    rw [hq] at he hR
    simp only at he hR ⊢
    by_cases hf : (find s.nodes q).isSome = true
    · rw [if_pos hf] at he; simp [Res.bad] at he
    · rw [if_neg hf] at hR ⊢
      obtain ⟨h1, h2, h3, _⟩ := newPath_some hm hk hq
      have hn : find s.nodes q = none := by simpa using hf
      obtain ⟨_, _, _, _, _, hlen, _⟩ := parent_some h3
      have hup : upB q = x.dir := by unfold upB; rw [h3]; rfl
      generalize (if x.turns = true then setT s.turns x.dir (turnOf s.turns x.dir + 1) else s.turns) = T at hR ⊢
      have hfa : find (ins s.nodes (place s.nodes q) ⟨q, x.data, 0, 0, x.own⟩) q = some ⟨q, x.data, 0, 0, x.own⟩ := by
        have := find_ins h.asc ⟨q, x.data, 0, 0, x.own⟩ hn q
        simpa using this
      have m7 : mayP ⟨7, x.dir, q, [], 0, 0, false⟩ = true := mayP_mk (by decide) (h1) (by rw [← hup]; rfl) (fun k => by have := k.1; simp at this) (by simp) (by decide) (by decide) (by decide) (by decide)
      have m2 : mayP ⟨2, x.dir, q, [], 0, 0, false⟩ = true := mayP_mk (by decide) (h1) (by rw [← hup]; rfl) (fun k => h2 k.2) (by simp) (by decide) (by decide) (by decide) (by decide)
      have m3 : mayP ⟨3, x.dir, q, [], 0, 0, false⟩ = true := mayP_mk (by decide) (h1) (by rw [← hup]; rfl) (fun k => by have := k.1; simp at this) (by simp) (by decide) (by decide) (by decide) (by decide)
      refine ⟨_, q, rfl, hR, hlen, ins_length _ _ _, ?_, ?_, ⟨s.nodes, T⟩, ?_, rfl⟩
      · rw [applyP_yes hR m7]
        unfold Pm.doP
        simp [hfa, versionedP]
      · rw [applyP_yes hR m2]
        unfold Pm.doP putS newPath
        simp [hfa]
      · rw [applyP_yes hR m3]
        have hpl : place (ins s.nodes (place s.nodes q) ⟨q, x.data, 0, 0, x.own⟩) q = place s.nodes q := by
          have hk := place_le s.nodes q
          have hk2 : place s.nodes q < (ins s.nodes (place s.nodes q) ⟨q, x.data, 0, 0, x.own⟩).length := by rw [ins_length]; omega
          have := place_at hR.asc hk2
          have e : ((ins s.nodes (place s.nodes q) ⟨q, x.data, 0, 0, x.own⟩)[place s.nodes q]).path = q := by rw [ins_at _ _ hk _ hk2]
          rw [e] at this; exact this
        have he2 := erase_ins s.nodes (place s.nodes q) (place_le _ _) ⟨q, x.data, 0, 0, x.own⟩
        unfold Pm.doP
        simp [hfa, versionedP, hpl, he2]

/-- An operation's parts. -/
theorem partsOf_may (o : Opn) : ∀ x ∈ partsOf o, mayP x = true ∧ (x.dir = x.path ∨ x.dir = upB x.path) ∧ x.path.length ≤ 100 := by
  intro x hx
  unfold partsOf at hx
  split at hx
  · rename_i hm
    have hs := may_split hm
    have ho := may_own hm
    have hv : -1 ≤ o.ver ∧ o.ver ≤ 281474976710656 := by
      have hk := may_kind hm
      unfold may at hm
      simp only [Bool.and_eq_true] at hm
      have := hm.2
      rcases hk with k | k | k | k | k | k | k <;> simp [k] at this <;> omega
    have hlen : o.path.length ≤ 100 := by
      obtain ⟨ps, hps⟩ := Option.isSome_iff_exists.1 hs
      obtain ⟨hP, e⟩ := (split_iff _ _).1 hps
      rw [← e]; exact joinP_len hP
    have hul : ∀ p : Bs, p.length ≤ 100 → (upB p).length ≤ 100 := fun p h => by
      unfold upB
      cases hp : parent p with
      | none => simp
      | some u => obtain ⟨_, _, _, h1, _⟩ := parent_some hp; exact h1
    have hus := upB_ok o.path
    split at hx
    · rename_i k
      obtain ⟨u, hu⟩ := may_parent hm (.inl k)
      simp only [List.mem_cons, List.not_mem_nil, or_false] at hx
      rcases hx with rfl | rfl
      · exact ⟨mayP_mk (by decide) (hus) (rfl) (fun k => by have := k.1; simp at this) (by simp) (by decide) (by decide) (by decide) (by decide), .inr rfl, hul _ hlen⟩
      · exact ⟨mayP_mk (by decide) (hs) (rfl) (fun k => parent_ne_root hu k.2) (ho.1) (by decide) (by decide) (ho.2.1) (ho.2.2), .inr rfl, hlen⟩
    split at hx
    · simp only [List.mem_cons, List.not_mem_nil, or_false] at hx
      rcases hx with rfl | rfl
      · exact ⟨mayP_mk (by decide) (hs) (rfl) (fun k => by have := k.1; simp at this) (by simp) (hv.1) (hv.2) (by decide) (by decide), .inr rfl, hlen⟩
      · exact ⟨mayP_mk (by decide) (hs) (rfl) (fun k => by have := k.1; simp at this) (by simp) (by decide) (by decide) (by decide) (by decide), .inl rfl, hlen⟩
    split at hx
    · simp only [List.mem_cons, List.not_mem_nil, or_false] at hx
      subst hx
      exact ⟨mayP_mk (by decide) (hs) (rfl) (fun k => by have := k.1; simp at this) (ho.1) (hv.1) (hv.2) (by decide) (by decide), .inr rfl, hlen⟩
    split at hx
    · simp only [List.mem_cons, List.not_mem_nil, or_false] at hx
      subst hx
      exact ⟨mayP_mk (by decide) (hs) (rfl) (fun k => by have := k.1; simp at this) (by simp) (hv.1) (hv.2) (by decide) (by decide), .inr rfl, hlen⟩
    split at hx
    · simp only [List.mem_cons, List.not_mem_nil, or_false] at hx
      subst hx
      exact ⟨mayP_mk (by decide) (hs) (rfl) (fun k => by have := k.1; simp at this) (by simp) (by decide) (by decide) (by decide) (by decide), .inr rfl, hlen⟩
    split at hx
    · simp only [List.mem_cons, List.not_mem_nil, or_false] at hx
      rcases hx with rfl | rfl
      · exact ⟨mayP_mk (by decide) (hs) (rfl) (fun k => by have := k.1; simp at this) (by simp) (by decide) (by decide) (by decide) (by decide), .inr rfl, hlen⟩
      · exact ⟨mayP_mk (by decide) (hs) (rfl) (fun k => by have := k.1; simp at this) (by simp) (by decide) (by decide) (by decide) (by decide), .inl rfl, hlen⟩
    · simp only [List.mem_cons, List.not_mem_nil, or_false] at hx
      rcases hx with rfl | rfl
      · exact ⟨mayP_mk (by decide) (hs) (rfl) (fun k => by have := k.1; simp at this) (by simp) (by decide) (by decide) (by decide) (by decide), .inr rfl, hlen⟩
      · exact ⟨mayP_mk (by decide) (hs) (rfl) (fun k => by have := k.1; simp at this) (by simp) (by decide) (by decide) (ho.2.1) (ho.2.2), .inl rfl, hlen⟩
  · simp at hx
/-- Of another directory a part may not be. -/
theorem mayP_dir {x : Pt} (h : mayP x = true) (d : Bs) (k : mayP { x with dir := d } = true) : d = x.dir := by
  obtain ⟨_, _, h1, _⟩ := (mayP_iff _).1 h
  obtain ⟨_, _, h2, _⟩ := (mayP_iff _).1 k
  rw [h1]; exact h2
end Pm
end Go.Proofs.Ytlmfinpmlilcgaa

/- Turns in memory: slices of them, rows of the call's own; append, copy, clear; slices.Insert in the midst (gen_twin.py) -/
namespace Go.Proofs.Ytlmfinpmlilcgaa
set_option maxRecDepth 20000
open Go.RowKit Pm

abbrev TU : TypeId := 72
abbrev TUL : TypeId := 24
theorem insT_length (l : List Tu) (k : Nat) (x : Tu) : (insT l k x).length = l.length + 1 := by
  have := congrArg List.length (ins_tn l k x)
  rw [List.length_map, ins_length, List.length_map] at this; exact this
theorem placeT_of {l : List Tu} {p : Bs} {k : Nat} (hk : k ≤ l.length) (h1 : ∀ i (h : i < l.length), i < k → lt l[i].dir p = true) (h2 : ∀ i (h : i < l.length), k ≤ i → lt l[i].dir p = false) : placeT l p = k := by
  rw [← place_tn]
  exact place_of (by simpa using hk) (fun i h hi => by rw [List.getElem_map]; exact h1 i (by simpa using h) hi) (fun i h hi => by rw [List.getElem_map]; exact h2 i (by simpa using h) hi)
theorem findT_place {l : List Tu} (ha : AscT l) (p : Bs) : findT l p = if h : placeT l p < l.length then (if (l[placeT l p]).dir = p then some l[placeT l p] else none) else none := by
  have h := find_place (ascT_iff.1 ha) p
  rw [find_tn] at h
  have inj : ∀ {a b : Option Tu}, a.map tn = b.map tn → a = b := fun {a b} e => by
    cases a <;> cases b <;> first | rfl | (cases e; done) | (exact congrArg some (tn_inj (Option.some.inj e)))
  apply inj
  rw [h]
  have hp := place_tn l p
  by_cases hl : placeT l p < l.length
  · rw [dif_pos hl, dif_pos (by rw [hp, List.length_map]; exact hl)]
    have e : (l.map tn)[place (l.map tn) p]'(by rw [hp, List.length_map]; exact hl) = tn l[placeT l p] := by
      simp only [hp, List.getElem_map]
    rw [e]
    show (if (l[placeT l p]).dir = p then some (tn l[placeT l p]) else none) = _
    split <;> rfl
  · rw [dif_neg hl, dif_neg (by rw [hp, List.length_map]; exact hl)]; rfl
/-- A node's cells. -/
def tuC (n : Tu) : List Value := [strV n.dir, .int .i64 n.next]
def tuV (n : Tu) : Value := .agg #[strV n.dir, .int .i64 n.next]
def rowsT (l : List Tu) : List Value := l.flatMap tuC
theorem tuC_len (n : Tu) : (tuC n).length = 2 := rfl
theorem tuV_cells (n : Tu) : (tuV n).cells = (tuC n).toArray := rfl
theorem rowsT_nil : rowsT [] = [] := rfl
theorem rowsT_cons (n : Tu) (l : List Tu) : rowsT (n :: l) = tuC n ++ rowsT l := by simp [rowsT]
theorem rowsT_app (a b : List Tu) : rowsT (a ++ b) = rowsT a ++ rowsT b := by simp [rowsT]
theorem rowsT_len (l : List Tu) : (rowsT l).length = l.length * 2 := by
  induction l with
  | nil => rfl
  | cons n l ih => rw [rowsT_cons, List.length_append, tuC_len, ih, List.length_cons]; omega
theorem rowsT_get (l : List Tu) (i j : Nat) (hi : i < l.length) (hj : j < 2) : (rowsT l)[i * 2 + j]? = (tuC l[i])[j]? := by
  induction l generalizing i with
  | nil => simp at hi
  | cons n l ih =>
    rw [rowsT_cons]
    cases i with
    | zero => rw [List.getElem?_append_left (by rw [tuC_len]; omega)]; simp
    | succ i =>
      rw [List.getElem?_append_right (by rw [tuC_len]; omega), tuC_len, show (i + 1) * 2 + j - 2 = i * 2 + j from by omega, ih i (by simpa using hi)]
      simp
theorem rowsT_one (l : List Tu) : ∀ u ∈ rowsT l, u.oneCell' = true := by
  intro u hu
  unfold rowsT at hu
  rw [List.mem_flatMap] at hu
  obtain ⟨n, _, hu⟩ := hu
  simp only [tuC, List.mem_cons, List.not_mem_nil, or_false] at hu
  rcases hu with rfl | rfl <;> rfl
theorem rowsT_take (l : List Tu) (k : Nat) : (rowsT l).take (k * 2) = rowsT (l.take k) := by
  induction l generalizing k with
  | nil => simp [rowsT]
  | cons n l ih =>
    cases k with
    | zero => simp [rowsT]
    | succ k => rw [List.take_succ_cons, rowsT_cons, rowsT_cons, ← ih, List.take_append, tuC_len, List.take_of_length_le (by rw [tuC_len]; omega), show (k + 1) * 2 - 2 = k * 2 from by omega]
theorem rowsT_drop (l : List Tu) (k : Nat) : (rowsT l).drop (k * 2) = rowsT (l.drop k) := by
  induction l generalizing k with
  | nil => simp [rowsT]
  | cons n l ih =>
    cases k with
    | zero => simp [rowsT]
    | succ k => rw [List.drop_succ_cons, rowsT_cons, ← ih, List.drop_append, tuC_len, List.drop_of_length_le (by rw [tuC_len]; omega), show (k + 1) * 2 - 2 = k * 2 from by omega]; rfl

/-- A node at a placeT. -/
structure TuAt (w : World) (g o : Nat) (n : Tu) : Prop where
  c0 : w.cell? ⟨g, o, none⟩ = some (strV n.dir)
  c1 : w.cell? ⟨g, o + 1, none⟩ = some (.int .i64 n.next)
theorem TuAt.keep {w w' : World} {g o : Nat} {n : Tu} (h : TuAt w g o n) {S : Nat → Prop} (f : Fp S w w') (hS : ¬ S g) : TuAt w' g o n :=
  ⟨f.cell h.c0 hS, f.cell h.c1 hS⟩
theorem TuAt.get {w : World} {g o : Nat} {n : Tu} (h : TuAt w g o n) : ∀ j v, (tuC n)[j]? = some v → w.cell? ((⟨g, o, none⟩ : Addr).add j) = some v := by
  intro j v hv
  rw [Addr.add_lit]
  match j, hv with
  | 0, hv => rw [← Option.some.inj hv]; exact h.c0
  | 1, hv => rw [← Option.some.inj hv]; exact h.c1
  | j + 2, hv => simp [tuC] at hv

/-- A slice that reads as nodes. -/
structure Ts (w : World) (v : Value) (l : List Tu) : Prop where
  ex : ∃ ao cap, v = .slice ao l.length cap ∧ l.length ≤ cap ∧ cap ≤ maxLen ∧ (l = [] ∨ ∃ g o, ao = some ⟨g, o, none⟩ ∧ g < w.heap.size ∧ ∀ i (h : i < l.length), TuAt w g (o + i * 2) l[i])
theorem Ts.keep {w w' : World} {v : Value} {l : List Tu} (h : Ts w v l) {S : Nat → Prop} (f : Fp S w w') (hS : ∀ k, v.ownBlock = some k → ¬ S k) : Ts w' v l := by
  obtain ⟨ao, cap, rfl, h1, h2, h3⟩ := h.ex
  refine ⟨ao, cap, rfl, h1, h2, ?_⟩
  rcases h3 with h3 | ⟨g, o, rfl, hg, hc⟩
  · exact .inl h3
  · exact .inr ⟨g, o, rfl, Nat.lt_of_lt_of_le hg f.size, fun i hi => (hc i hi).keep f (hS g rfl)⟩
theorem Ts.non {w w' : World} {v : Value} {l : List Tu} (h : Ts w v l) (f : Fp Non w w') : Ts w' v l := h.keep f (fun _ _ h => h)
theorem Ts.nil (w : World) : Ts w (.slice none 0 0) [] := ⟨none, 0, rfl, Nat.le_refl _, Nat.zero_le _, .inl rfl⟩
theorem Ts.shape {w : World} {v : Value} {l : List Tu} (h : Ts w v l) : ∃ ao cap, v = .slice ao l.length cap := by
  obtain ⟨ao, cap, rfl, _⟩ := h.ex; exact ⟨ao, cap, rfl⟩
theorem Ts.at {w : World} {v : Value} {l : List Tu} (h : Ts w v l) (h0 : 0 < l.length) : ∃ g o cap, v = .slice (some ⟨g, o, none⟩) l.length cap ∧ l.length ≤ cap ∧ cap ≤ maxLen ∧ g < w.heap.size ∧ ∀ i (h : i < l.length), TuAt w g (o + i * 2) l[i] := by
  obtain ⟨ao, cap, rfl, h1, h2, h3⟩ := h.ex
  rcases h3 with h3 | ⟨g, o, rfl, hg, hc⟩
  · subst h3; simp at h0
  · exact ⟨g, o, cap, rfl, h1, h2, hg, hc⟩
theorem Ts.take {w : World} {g o n cap : Nat} {l : List Tu} (h : Ts w (.slice (some ⟨g, o, none⟩) n cap) l) (k c : Nat) (hk : k ≤ l.length) (hkc : k ≤ c) (hc : c ≤ maxLen) (h0 : g < w.heap.size) : Ts w (.slice (some ⟨g, o, none⟩) k c) (l.take k) := by
  obtain ⟨ao, cap', e, h1, h2, h3⟩ := h.ex
  injection e with e1 e2 e3
  have hl : (l.take k).length = k := by rw [List.length_take]; omega
  refine ⟨some ⟨g, o, none⟩, c, by rw [hl], by rw [hl]; exact hkc, hc, ?_⟩
  rcases h3 with h3 | ⟨g', o', e4, hg, hcell⟩
  · subst h3; exact .inl (by simp)
  · rw [e4] at e1; injection e1 with e1; injection e1 with e5 e6; subst e5 e6
    refine .inr ⟨g, o, rfl, h0, fun i hi => ?_⟩
    rw [List.getElem_take]
    exact hcell i (by rw [hl] at hi; omega)

/-- A row of the call's own: block g has room for cap nodes, and begins with l. -/
structure Tr2 (w : World) (g cap : Nat) (l : List Tu) : Prop where
  ex : ∃ rest, w.heap[g]? = some (.cells (rowsT l ++ rest).toArray TU (0, 0)) ∧ l.length * 2 + rest.length = cap * 2
  room : l.length ≤ cap
  most : cap ≤ maxLen
theorem Tr2.lt {w : World} {g cap : Nat} {l : List Tu} (h : Tr2 w g cap l) : g < w.heap.size := by
  obtain ⟨r, h, _⟩ := h.ex; exact (Array.getElem?_eq_some_iff.1 h).1
theorem Tr2.keep {w w' : World} {g cap : Nat} {l : List Tu} (h : Tr2 w g cap l) {S : Nat → Prop} (f : Fp S w w') (hS : ¬ S g) : Tr2 w' g cap l := by
  obtain ⟨r, h1, h2⟩ := h.ex; exact ⟨⟨r, f.heap h1 hS, h2⟩, h.room, h.most⟩
theorem Tr2.cell {w : World} {g cap : Nat} {l : List Tu} (h : Tr2 w g cap l) (i j : Nat) (hi : i < l.length) (hj : j < 2) : w.cell? ⟨g, i * 2 + j, none⟩ = (tuC l[i])[j]? := by
  obtain ⟨r, h1, _⟩ := h.ex
  rw [cell_of_row w g _ _ TU (0, 0) h1]
  simp only [List.getElem?_toArray]
  rw [List.getElem?_append_left (by rw [rowsT_len]; omega), rowsT_get l i j hi hj]
theorem Tr2.nd {w : World} {g cap : Nat} {l : List Tu} (h : Tr2 w g cap l) (i : Nat) (hi : i < l.length) : TuAt w g (0 + i * 2) l[i] := by
  rw [Nat.zero_add]
  exact ⟨h.cell i 0 hi (by omega), h.cell i 1 hi (by omega)⟩
theorem Tr2.ns {w : World} {g cap : Nat} {l : List Tu} (h : Tr2 w g cap l) : Ts w (.slice (some ⟨g, 0, none⟩) l.length cap) l :=
  ⟨_, cap, rfl, h.room, h.most, .inr ⟨g, 0, rfl, h.lt, h.nd⟩⟩
theorem Tr2.frozen {w : World} {g cap : Nat} {l : List Tu} (h : Tr2 w g cap l) (o : Nat) : w.frozen? ⟨g, o, none⟩ = false := by
  obtain ⟨r, h1, _⟩ := h.ex; simp [World.frozen?, h1]
theorem Tr2.owns {w : World} {g cap : Nat} {l : List Tu} (h : Tr2 w g cap l) {lo : Nat} (hlo : lo ≤ g) : w.ownsRow lo TU 2 (.slice (some ⟨g, 0, none⟩) l.length cap) l.length (rowsT l) := by
  obtain ⟨r, h1, h2⟩ := h.ex
  refine ⟨rowsT_len l, .inr ⟨g, cap, _, rfl, hlo, h1, h.room, h.most, by simp [rowsT_len]; omega, ?_⟩⟩
  simp only
  rw [← rowsT_len l]; exact List.take_left
theorem Tr2.of_owns {w : World} {lo g cap n : Nat} {l : List Tu} (h : w.ownsRow lo TU 2 (.slice (some ⟨g, 0, none⟩) n cap) n (rowsT l)) (hn : n = l.length) : Tr2 w g cap l ∧ lo ≤ g := by
  subst hn
  rcases h.2 with ⟨h0, _⟩ | ⟨g', cap', cur, e, hb, hg, h1, h2, h3, h4⟩
  · cases h0
  · injection e with e1 _ e3
    injection e1 with e1
    injection e1 with e1
    subst e1 e3
    refine ⟨⟨⟨cur.toList.drop (l.length * 2), ?_, ?_⟩, h1, h2⟩, hb⟩
    · rw [← h4, List.take_append_drop]; exact hg
    · have e : cur.toList.length = cap * 2 := by rw [Array.length_toList, h3]
      rw [List.length_drop, e]; omega

theorem Try.infoU : (Try.prog.info? TU).map (fun i => (i.zero, i.size, i.bytes)) = some (some (.agg #[.string ⟨#[]⟩, .int .i64 0]), 2, 24) := by kernel_rfl
theorem szU (w : World) : (sizeOf TU).run Try.prog w = .ok 2 w := by
  obtain ⟨i, hi, _, hs, _⟩ := info_parts Try.infoU
  simp [sizeOf, typeInfo, hi, hs]
theorem zvU (w : World) : (zeroValue TU).run Try.prog w = .ok (.agg #[.string ⟨#[]⟩, .int .i64 0]) w := by
  obtain ⟨i, hi, hz, _, _⟩ := info_parts Try.infoU
  simp [zeroValue, typeInfo, hi, hz]

/-- copy, at a row: some cells read before, laid over. -/
theorem run_copy_turns (w : World) (ty : TypeId) (g o dLen dCap : Nat) (a : Addr) (sLen sCap : Nat) (cur : List Value) (m : Nat) (cs : List Value) (hg : w.heap[g]? = some (.cells cur.toArray TU (0, 0))) (hm : m = Nat.min sLen dLen) (hn : cs.length = m * 2)
    (hsrc : ∀ j v, cs[j]? = some v → w.cell? (a.add j) = some v) (hfit : o + cs.length ≤ cur.length) (h1 : ∀ v ∈ cs, v.oneCell' = true) :
    (Builtin.copy_ #[TUL, TUL] ty #[.slice (some ⟨g, o, none⟩) dLen dCap, .slice (some a) sLen sCap]).run Try.prog w = .ok (goInt m) (w.setRow g (cur.take o ++ cs ++ cur.drop (o + cs.length)).toArray) := by
  have hl := run_loadCells_list (P := Try.prog) w a cs hsrc
  have hst := run_storeCells_at Try.prog g o TU cs 0 cur.toArray w hg (by simpa using hfit) h1
  rw [hn] at hl
  simp [Builtin.copy_, run_underlying Try.underlying24, Builtin.lenOf, Builtin.firstCells, ← hm, hl, hst]

/-- clear, at a row. -/
theorem run_clear_turns (w : World) (ty : TypeId) (g o n c : Nat) (cur : List Value) (hg : w.heap[g]? = some (.cells cur.toArray TU (0, 0))) (hfit : o + n * 2 ≤ cur.length) (h0 : 0 < n) :
    ∃ zs : List Value, zs.length = n * 2 ∧ (Builtin.clear_ #[TUL] ty #[.slice (some ⟨g, o, none⟩) n c]).run Try.prog w = .ok (.tuple #[]) (w.setRow g (cur.take o ++ zs ++ cur.drop (o + n * 2)).toArray) := by
  refine ⟨(Builtin.zeroCells #[.string ⟨#[]⟩, .int .i64 0] n).toList, by simp [size_zeroCells], ?_⟩
  have hst := run_storeCells_at Try.prog g o TU (Builtin.zeroCells #[.string ⟨#[]⟩, .int .i64 0] n).toList 0 cur.toArray w hg (by simpa [size_zeroCells] using hfit) (by
    intro v hv
    simp only [Builtin.zeroCells, Array.toList_map, List.mem_map, Array.toList_range] at hv
    obtain ⟨i, _, rfl⟩ := hv
    have : i % 2 < 2 := Nat.mod_lt _ (by omega)
    generalize i % 2 = k at this
    match k, this with
    | 0, _ => rfl
    | 1, _ => rfl)
  obtain ⟨m, rfl⟩ : ∃ m, n = m + 1 := ⟨n - 1, by omega⟩
  simp [size_zeroCells] at hst
  simp [Builtin.clear_, run_underlying Try.underlying24, Value.cells, hst]

/-- Some slice of nodes behind a row of the call's own. -/
theorem app_turns (w : World) (lo : Nat) (v : Value) (l m : List Tu) (ty : TypeId) (g o n c : Nat) (hv : w.ownsRow lo TU 2 v l.length (rowsT l)) (hn : n = m.length) (hx : ∀ i (h : i < m.length), TuAt w g (o + i * 2) m[i]) (h6 : l.length + m.length ≤ 100000) (hlo : lo ≤ w.heap.size) (h0 : 0 < l.length + m.length) :
    ∃ G cap w', (Builtin.append_ #[TUL, TUL] ty #[v, .slice (some ⟨g, o, none⟩) n c]).run Try.prog w = .ok (.slice (some ⟨G, 0, none⟩) (l.length + m.length) cap) w' ∧ Tr2 w' G cap (l ++ m) ∧ lo ≤ G ∧ w.grownBy w' v.ownBlock ∧ (v.ownBlock = some G ∨ w.heap.size ≤ G) := by
  obtain ⟨i, hi, hz, hsz, hby⟩ := info_parts Try.infoU
  subst hn
  obtain ⟨v', w', hr, h4, h5, h7, h8⟩ := run_append_own_at (P := Try.prog) w lo TUL ty TU i _ 2 24 Try.underlying24 hi hz hsz hby rfl (by decide) v l.length (rowsT l) hv ⟨g, o, none⟩ m.length c (rowsT m) (rowsT_len m)
    (fun j u hu => by
      have hj : j < m.length * 2 := by rw [← rowsT_len]; exact (List.getElem?_eq_some_iff.1 hu).1
      have hd : j / 2 < m.length := by omega
      have e : j / 2 * 2 + j % 2 = j := by omega
      rw [← e, rowsT_get m (j / 2) (j % 2) hd (by omega)] at hu
      have := (hx (j / 2) hd).get (j % 2) u hu
      rw [Addr.add_lit] at this ⊢
      rwa [show o + j / 2 * 2 + j % 2 = o + j from by omega] at this)
    (rowsT_one m) (by unfold maxLen; omega) (by omega) hlo
  have hne : v' ≠ .slice none 0 0 := fun e => by
    obtain ⟨e1, e2⟩ := h7.1 e
    subst e1
    rcases hv.2 with ⟨_, h⟩ | ⟨_, _, _, h, _⟩
    · omega
    · cases h
  rcases h4.2 with ⟨h9, _⟩ | ⟨G, cap, cur, rfl, hb, hg, r1, r2, r3, r4⟩
  · exact absurd h9 hne
  · rw [← rowsT_app] at h4
    obtain ⟨h10, h11⟩ := Tr2.of_owns h4 (by rw [List.length_append])
    refine ⟨G, cap, w', hr, h10, h11, h5, ?_⟩
    rcases h8 with h8 | h8
    · exact .inl h8.symm
    · right; simp [Value.ownBlock] at h8; omega
/-- Behind a copy into a row. -/
structure CopT (G cap : Nat) (cur : List Value) (w w' : World) : Prop where
  hp : w'.heap[G]? = some (.cells cur.toArray TU (0, 0))
  len : cur.length = cap * 2
  fp : Fp (fun k => k = G) w w'

theorem copyT_at {w : World} {G cap : Nat} {cur : List Value} (hg : w.heap[G]? = some (.cells cur.toArray TU (0, 0))) (hl : cur.length = cap * 2) (ty : TypeId) (o dLen dCap : Nat) (a : Addr) (sLen sCap : Nat) (l : List Tu) (hm : l.length = Nat.min sLen dLen)
    (hsrc : ∀ i (h : i < l.length) j v, (tuC l[i])[j]? = some v → w.cell? (a.add (i * 2 + j)) = some v) (hfit : o + l.length * 2 ≤ cap * 2) :
    ∃ v' w', (Builtin.copy_ #[TUL, TUL] ty #[.slice (some ⟨G, o, none⟩) dLen dCap, .slice (some a) sLen sCap]).run Try.prog w = .ok v' w' ∧ CopT G cap (cur.take o ++ rowsT l ++ cur.drop (o + l.length * 2)) w w' := by
  have h := run_copy_turns w ty G o dLen dCap a sLen sCap cur l.length (rowsT l) hg hm (rowsT_len l) (fun j v hv => by
    have hj : j < l.length * 2 := by rw [← rowsT_len]; exact (List.getElem?_eq_some_iff.1 hv).1
    have hd : j / 2 < l.length := by omega
    have e : j / 2 * 2 + j % 2 = j := by omega
    rw [← e, rowsT_get l (j / 2) (j % 2) hd (by omega)] at hv
    have := hsrc (j / 2) hd (j % 2) v hv
    rwa [e] at this) (by rw [rowsT_len, hl]; exact hfit) (rowsT_one l)
  rw [rowsT_len] at h
  refine ⟨_, _, h, setRow_heap w G _ _ TU _ hg, ?_, fp_setRow w G _⟩
  simp only [List.length_append, List.length_take, List.length_drop, rowsT_len, hl]
  omega

theorem Tr2.src {w : World} {G cap : Nat} {l : List Tu} (h : Tr2 w G cap l) (k : Nat) : ∀ i (hi : i < (l.drop k).length) j v, (tuC (l.drop k)[i])[j]? = some v → w.cell? ((⟨G, k * 2, none⟩ : Addr).add (i * 2 + j)) = some v := by
  intro i hi j v hv
  rw [List.length_drop] at hi
  rw [List.getElem_drop] at hv
  have hj : j < 2 := by have := (List.getElem?_eq_some_iff.1 hv).1; simpa [tuC] using this
  rw [Addr.add_lit, show k * 2 + (i * 2 + j) = (k + i) * 2 + j from by omega, h.cell (k + i) j (by omega) hj, hv]

/-- What the two copies leave. -/
theorem insT_cells (l : List Tu) (k : Nat) (hk : k ≤ l.length) (x : Tu) (cur : List Value) (h1 : cur.take (k * 2) = rowsT (l.take k)) (h2 : (l.length + 1) * 2 ≤ cur.length) :
    ∃ rest, ((cur.take ((k + 1) * 2) ++ rowsT (l.drop k) ++ cur.drop ((k + 1) * 2 + (l.drop k).length * 2)).take (k * 2) ++ rowsT [x] ++ (cur.take ((k + 1) * 2) ++ rowsT (l.drop k) ++ cur.drop ((k + 1) * 2 + (l.drop k).length * 2)).drop (k * 2 + [x].length * 2)) = rowsT (insT l k x) ++ rest ∧
      (l.length + 1) * 2 + rest.length = cur.length := by
  refine ⟨cur.drop ((k + 1) * 2 + (l.drop k).length * 2), ?_, ?_⟩
  · have e1 : (cur.take ((k + 1) * 2)).length = (k + 1) * 2 := by rw [List.length_take]; omega
    have e2 : (cur.take ((k + 1) * 2) ++ rowsT (l.drop k) ++ cur.drop ((k + 1) * 2 + (l.drop k).length * 2)).take (k * 2) = rowsT (l.take k) := by
      rw [List.append_assoc, List.take_append_of_le_length (by rw [e1]; omega), List.take_take, Nat.min_eq_left (by omega), h1]
    have e3 : (cur.take ((k + 1) * 2) ++ rowsT (l.drop k) ++ cur.drop ((k + 1) * 2 + (l.drop k).length * 2)).drop (k * 2 + [x].length * 2) = rowsT (l.drop k) ++ cur.drop ((k + 1) * 2 + (l.drop k).length * 2) := by
      rw [List.append_assoc, List.drop_append, List.drop_of_length_le (by rw [e1]; simp; omega), e1, show k * 2 + [x].length * 2 - (k + 1) * 2 = 0 from by simp; omega]
      rfl
    rw [e2, e3, insT, rowsT_app]
    simp [rowsT, List.append_assoc]
  · simp only [List.length_drop]; omega

end Go.Proofs.Ytlmfinpmlilcgaa

/- slices.Insert whole, slices.Delete at turns (gen_twin.py) -/
namespace Go.Proofs.Ytlmfinpmlilcgaa
set_option maxRecDepth 20000
open Go.RowKit Pm

/-- A row that came of another one, or is new. -/
structure InsT (w : World) (G n : Nat) (l : List Tu) (v' : Value) (w' : World) : Prop where
  ex : ∃ G' cap', v' = .slice (some ⟨G', 0, none⟩) n cap' ∧ Tr2 w' G' cap' l ∧ (G' = G ∨ w.heap.size ≤ G') ∧ Fp (fun j => j = G) w w'

structure ZerT (w : World) (n gc : Nat) (W1 : World) (v' : Value) (w' : World) : Prop where
  v : v' = .slice (some ⟨w.heap.size, 0, none⟩) (n + 1) gc
  w : w' = W1
theorem zerT {w W1 : World} {n gc k G cap : Nat} {ty : TypeId} (h : ∀ ty, (Builtin.append_ #[TUL, 3] ty #[.slice (some ⟨G, 0, none⟩) k cap, .int .i64 ((n + 1 - k : Nat) : Int)]).run Try.prog w = .ok (.slice (some ⟨w.heap.size, 0, none⟩) (n + 1) gc) W1) :
    ∃ v' w', (Builtin.append_ #[TUL, 3] ty #[.slice (some ⟨G, 0, none⟩) k cap, .int .i64 ((n + 1 - k : Nat) : Int)]).run Try.prog w = .ok v' w' ∧ ZerT w n gc W1 v' w' := ⟨_, _, h ty, rfl, rfl⟩

theorem growT_cells (l : List Tu) (k : Nat) (hk : k ≤ l.length) (x : Tu) (cur : List Value) (h1 : cur.take (k * 2) = rowsT (l.take k)) (h2 : (l.length + 1) * 2 ≤ cur.length) :
    ∃ rest, ((cur.take (k * 2) ++ rowsT [x] ++ cur.drop (k * 2 + [x].length * 2)).take ((k + 1) * 2) ++ rowsT (l.drop k) ++ (cur.take (k * 2) ++ rowsT [x] ++ cur.drop (k * 2 + [x].length * 2)).drop ((k + 1) * 2 + (l.drop k).length * 2)) = rowsT (insT l k x) ++ rest ∧
      (l.length + 1) * 2 + rest.length = cur.length := by
  have e0 : (rowsT (l.take k) ++ rowsT [x]).length = (k + 1) * 2 := by rw [List.length_append, rowsT_len, rowsT_len, List.length_take]; simp; omega
  refine ⟨(cur.take (k * 2) ++ rowsT [x] ++ cur.drop (k * 2 + [x].length * 2)).drop ((k + 1) * 2 + (l.drop k).length * 2), ?_, ?_⟩
  · rw [h1]
    rw [List.take_append_of_le_length (by rw [e0]; omega), List.take_of_length_le (by rw [e0]; omega)]
    congr 1
    rw [insT, rowsT_app]
    simp [rowsT, List.append_assoc]
  · rw [h1, List.length_drop, List.length_append, e0, List.length_drop, List.length_drop]
    simp; omega

/-- Behind the append of what lies behind: a row whose beginning is known. -/
structure DelT (w : World) (G cap n : Nat) (l : List Tu) (v' : Value) (w' : World) : Prop where
  v : v' = .slice (some ⟨G, 0, none⟩) n cap
  row : Tr2 w' G cap l
  fp : Fp (fun j => j = G) w w'

theorem appT_in {w : World} {G cap : Nat} {l m : List Tu} (h : Tr2 w G cap l) (k : Nat) (ty : TypeId) (a : Addr) (c : Nat) (hk : k + m.length ≤ l.length) (hm : ∀ i (h : i < m.length) j v, (tuC m[i])[j]? = some v → w.cell? (a.add (i * 2 + j)) = some v) :
    ∃ v' w', (Builtin.append_ #[TUL, TUL] ty #[.slice (some ⟨G, 0, none⟩) k cap, .slice (some a) m.length c]).run Try.prog w = .ok v' w' ∧ DelT w G cap (k + m.length) (l.take k ++ m) v' w' := by
  obtain ⟨i, hi, _, hs, _⟩ := info_parts Try.infoU
  obtain ⟨rest, hg, hrl⟩ := h.ex
  have hlc : (rowsT l ++ rest).length = cap * 2 := by rw [List.length_append, rowsT_len]; omega
  have hroom := h.room
  have hr := run_append_room (P := Try.prog) w TUL ty TU i Try.underlying24 hi G k cap (rowsT l ++ rest).toArray hg a m.length c (rowsT m) (by rw [rowsT_len, hs]) (fun j v hv => by
    have hj : j < m.length * 2 := by rw [← rowsT_len]; exact (List.getElem?_eq_some_iff.1 hv).1
    have hd : j / 2 < m.length := by omega
    have e : j / 2 * 2 + j % 2 = j := by omega
    rw [← e, rowsT_get m (j / 2) (j % 2) hd (by omega)] at hv
    have := hm (j / 2) hd (j % 2) v hv
    rwa [e] at this) (rowsT_one m) (by omega) (by rw [hs, rowsT_len, List.size_toArray, hlc]; omega)
  refine ⟨_, _, hr, rfl, ⟨⟨(rowsT l ++ rest).drop (k * 2 + (rowsT m).length), ?_, ?_⟩, ?_, h.most⟩, fp_setRow w G _⟩
  · have := setRow_heap w G _ (((rowsT l ++ rest).take (k * i.size)) ++ rowsT m ++ (rowsT l ++ rest).drop (k * i.size + (rowsT m).length)).toArray TU _ hg
    rw [hs] at this
    rw [hs]
    rw [this]
    congr 2
    rw [rowsT_app, List.take_append_of_le_length (by rw [rowsT_len]; omega), rowsT_take]
  · rw [List.length_drop, hlc, rowsT_len, List.length_append, List.length_take]; omega
  · rw [List.length_append, List.length_take]; omega

/-- clear of what lies behind. -/
theorem clearT_in {w : World} {G cap : Nat} {l : List Tu} (h : Tr2 w G cap l) (ty : TypeId) (n c : Nat) (h0 : 0 < n) (hn : l.length + n ≤ cap) :
    ∃ w', (Builtin.clear_ #[TUL] ty #[.slice (some ⟨G, l.length * 2, none⟩) n c]).run Try.prog w = .ok (.tuple #[]) w' ∧ Tr2 w' G cap l ∧ Fp (fun j => j = G) w w' := by
  obtain ⟨rest, hg, hrl⟩ := h.ex
  have hlc : (rowsT l ++ rest).length = cap * 2 := by rw [List.length_append, rowsT_len]; omega
  obtain ⟨zs, hz, hr⟩ := run_clear_turns w ty G (l.length * 2) n c (rowsT l ++ rest) hg (by rw [hlc]; omega) h0
  refine ⟨_, hr, ⟨⟨zs ++ (rowsT l ++ rest).drop (l.length * 2 + n * 2), ?_, ?_⟩, h.room, h.most⟩, fp_setRow w G _⟩
  · rw [setRow_heap w G _ _ TU _ hg]
    congr 2
    rw [← rowsT_len l, List.take_left, List.append_assoc]
  · rw [List.length_append, List.length_drop, hz, hlc]; omega

end Go.Proofs.Ytlmfinpmlilcgaa

/- slices.Clone, BinarySearchFunc at turns (gen_twin.py) -/
namespace Go.Proofs.Ytlmfinpmlilcgaa
set_option maxRecDepth 20000
open Go.RowKit Pm
theorem nil_sliceT (w : World) (a : Addr) (n c : Nat) : (binOp .eql TUL (.slice (some a) n c) (.slice none 0 0)).run Try.prog w = .ok (.bool false) w :=
  Lib.run_eql_slice_nil w TUL TU (some a) n c 0 0 Try.underlying24

/-- A new row. -/
structure NewT (w : World) (n : Nat) (l : List Tu) (v' : Value) (w' : World) : Prop where
  ex : ∃ G cap, v' = .slice (some ⟨G, 0, none⟩) n cap ∧ Tr2 w' G cap l ∧ w.heap.size ≤ G ∧ Fp Non w w'

/-- Between i and j it lies. -/
structure BsT (l : List Tu) (p : Bs) (w : World) (i j : Nat) (wr : World) : Prop where
  fp : Fp Non w wr
  lo : ∀ x (h : x < l.length), x < i → lt l[x].dir p = true
  hi : ∀ x (h : x < l.length), j ≤ x → lt l[x].dir p = false
  ij : i ≤ j
  jn : j ≤ l.length

end Go.Proofs.Ytlmfinpmlilcgaa

