/- A text of this proof. -/
import Derived.Test.YtphoglepiegeiaaGreatDoorZDH
set_option linter.unusedSimpArgs false
set_option linter.unusedVariables false
namespace Go.Proofs.YtphoglepiegeiaaGreatDoor
set_option maxRecDepth 20000
open Go.RowKit Pm
theorem Insert_c {w : World} {G cap X : Nat} {l : List Nd} {x : Nd} (h : Nr w G cap l) (k : Nat) (hk : k ≤ l.length) (hX : w.heap[X]? = some (.cells (ndC x).toArray TN (0, 0))) (hne : X ≠ G) (hl : l.length ≤ 4000) (h0 : 0 < l.length) :
  Calls Tryz.prog 125 #[.slice (some ⟨G, 0, none⟩) l.length cap, .int .i64 (k : Int), .slice (some ⟨X, 0, none⟩) 1 1] w fun e w' => ∃ v', e = .returned v' ∧ InsR w G (l.length + 1) (ins l k x) v' w' := by
 have hnd : NdAt w X 0 x := ⟨by rw [cell_of_row _ _ _ _ _ _ hX]; rfl, by rw [cell_of_row _ _ _ _ _ _ hX]; rfl, by rw [cell_of_row _ _ _ _ _ _ hX]; rfl, by rw [cell_of_row _ _ _ _ _ _ hX]; rfl, by rw [cell_of_row _ _ _ _ _ _ hX]; rfl⟩
 by_cases hkl : k < l.length
 ·by_cases hr : l.length + 1 ≤ cap
  ·refine (Insert_mid h k hkl hr hnd hne hl hX).mono ?_
   rintro e w' ⟨rfl, h1, h2⟩
   exact ⟨_, rfl, ⟨G, cap, rfl, h1, .inl rfl, h2⟩⟩
  exact Insert_grow h k hkl (by omega) hnd hl
 obtain rfl : k = l.length := by omega
 have e : ins l l.length x = l ++ [x] := by unfold ins; simp
 rw [e]
 exact Insert_end h hnd hl h0
theorem step_app {P : Program} {ops : Array Oper} {o : Oper} {a : Act} {w : World} {K : Act → World → Prop} {Q : Exit → Act → World → Prop} {E : Prop} (hgd : o.guard = none) (s x : Operand) (t u : TypeId)
  (ho : o.op = .call { callee := .builtin .append, args := #[s, x], argTypes := #[t, u] }) (v xv : Value) (hs : a.eval s = v) (hx : a.eval x = xv) (R : Value → World → Prop)
  (hr : ∃ v' w', (Builtin.append_ #[t, u] o.type #[v, xv]).run P w = .ok v' w' ∧ R v' w') (h : ∀ v' w', R v' w' → K (a.put o.dst v') w') :
  if Region.wanted o (yielded ops a.tmps) = true then Oper.wp P o a w K Q else E := by
 have hw : Region.wanted o (yielded ops a.tmps) = true := by simp [Region.wanted, hgd]
 rw [if_pos hw]
 obtain ⟨v', w', hr, h2⟩ := hr
 unfold Oper.wp execOp
 simp only [ho, resolve, invoke, builtin, Sem.run_bind, Sem.run_pure, Result.andThen_ok, List.map_toArray, List.map_cons, List.map_nil, hs, hx, hr]
 exact h v' w' h2
theorem clear_in {w : World} {G cap : Nat} {l : List Nd} (h : Nr w G cap l) (ty : TypeId) (n c : Nat) (h0 : 0 < n) (hn : l.length + n ≤ cap) :
  ∃ w', (Builtin.clear_ #[TL] ty #[.slice (some ⟨G, l.length * 5, none⟩) n c]).run Tryz.prog w = .ok (.tuple #[]) w' ∧ Nr w' G cap l ∧ Fp (fun j => j = G) w w' := by
 obtain ⟨rest, hg, hrl⟩ := h.ex
 have hlc : (rows l ++ rest).length = cap * 5 := by rw [List.length_append, rows_len]; omega
 obtain ⟨zs, hz, hr⟩ := run_clear_nodes w ty G (l.length * 5) n c (rows l ++ rest) hg (by rw [hlc]; omega) h0
 refine ⟨_, hr, ⟨⟨zs ++ (rows l ++ rest).drop (l.length * 5 + n * 5), ?_, ?_⟩, h.room, h.most⟩, fp_setRow w G _⟩
 ·rw [setRow_heap w G _ _ TN _ hg]
  congr 2
  rw [← rows_len l, List.take_left, List.append_assoc]
 rw [List.length_append, List.length_drop, hz, hlc]; omega
structure DfM (S : Nat → Prop) (q : Nd → Bool) (l : List Nd) (G cap : Nat) (w : World) (i j : Nat) (wr : World) : Prop where
 ex : ∃ m, Nr wr G cap m ∧ m.length = l.length ∧ m.take i = (l.take j).filter (fun n => !q n) ∧ m.drop j = l.drop j
 ij : i < j
 fp : Fp (fun k => k = G) w wr
theorem DfM.keep {S : Nat → Prop} {q : Nd → Bool} {l : List Nd} {G cap i j : Nat} {w wr w' : World} (h : DfM S q l G cap w i j wr) (f : Fp Non wr w') : DfM S q l G cap w i j w' := by
 obtain ⟨m, h1, h2⟩ := h.ex
 exact ⟨⟨m, h1.keep f id, h2⟩, h.ij, h.fp.then f⟩
theorem take_step (l : List Nd) (j : Nat) (hj : j < l.length) (p : Nd → Bool) : (l.take (j + 1)).filter p = (l.take j).filter p ++ if p l[j] = true then [l[j]] else [] := by
 rw [List.take_succ_eq_append_getElem hj, List.filter_append]
 congr 1
 by_cases h : p l[j] = true <;> simp [h]
theorem DfM.gone {S : Nat → Prop} {q : Nd → Bool} {l : List Nd} {G cap i j : Nat} {w wr : World} (h : DfM S q l G cap w i j wr) (hj : j < l.length) (hq : q l[j] = true) : DfM S q l G cap w i (j + 1) wr := by
 obtain ⟨m, h1, h2, h3, h4⟩ := h.ex
 refine ⟨⟨m, h1, h2, ?_, ?_⟩, Nat.lt_succ_of_lt h.ij, h.fp⟩
 ·rw [take_step l j hj, h3]; simp [hq]
 have := congrArg (List.drop 1) h4
 rwa [List.drop_drop, List.drop_drop] at this
theorem DfM.stays {S : Nat → Prop} {q : Nd → Bool} {l : List Nd} {G cap i j : Nat} {w wr w' : World} (h : DfM S q l G cap w i j wr) (hj : j < l.length) (hq : q l[j] = false)
  (hs : ∀ m, Nr wr G cap m → i < m.length → Nr w' G cap (m.set i l[j])) (f : Fp (fun k => k = G) wr w') : DfM S q l G cap w (i + 1) (j + 1) w' := by
 obtain ⟨m, h1, h2, h3, h4⟩ := h.ex
 have hi := h.ij
 refine ⟨⟨m.set i l[j], hs m h1 (by omega), by rw [List.length_set, h2], ?_, ?_⟩, by omega, h.fp.same f⟩
 ·rw [take_step l j hj, ← h3]
  simp only [hq, Bool.not_false, if_true]
  rw [List.take_succ_eq_append_getElem (by rw [List.length_set]; omega), List.getElem_set_self, List.take_set_of_le (Nat.le_refl _)]
 rw [List.drop_set_of_lt (by omega)]
 have := congrArg (List.drop 1) h4
 rwa [List.drop_drop, List.drop_drop] at this
theorem DfM.cell {S : Nat → Prop} {q : Nd → Bool} {l : List Nd} {G cap i j : Nat} {w wr : World} (h : DfM S q l G cap w i j wr) (hj : j < l.length) : NdAt wr G (0 + j * 5) l[j] := by
 obtain ⟨m, h1, h2, h3, h4⟩ := h.ex
 have hm : j < m.length := by omega
 have e : m[j] = l[j] := by
  have h5 : (m.drop j)[0]? = (l.drop j)[0]? := by rw [h4]
  rw [List.getElem?_drop, List.getElem?_drop, List.getElem?_eq_getElem (by omega), List.getElem?_eq_getElem (by omega)] at h5
  exact Option.some.inj h5
 rw [← e]; exact h1.nd j hm
theorem DfM.there {S : Nat → Prop} {q : Nd → Bool} {l : List Nd} {G cap i j : Nat} {w wr : World} (h : DfM S q l G cap w i j wr) (hj : j ≤ l.length) : ∃ y, NdAt wr G (i * 5) y := by
 obtain ⟨m, h1, h2, h3, h4⟩ := h.ex
 have hi := h.ij
 have := h1.nd i (by omega)
 rw [Nat.zero_add] at this
 exact ⟨_, this⟩
theorem DfM.frozen {S : Nat → Prop} {q : Nd → Bool} {l : List Nd} {G cap i j : Nat} {w wr : World} (h : DfM S q l G cap w i j wr) (o : Nat) : wr.frozen? ⟨G, o, none⟩ = false := by
 obtain ⟨m, h1, _⟩ := h.ex; exact h1.frozen o
theorem rows_set (l : List Nd) (i : Nat) (hi : i < l.length) (x : Nd) (rest : List Value) : (((((rows l ++ rest).set (i * 5) (strV x.path)).set (i * 5 + 1) (strV x.data)).set (i * 5 + 2) (.int .i64 x.ver)).set (i * 5 + 3) (.int .i64 x.turn)).set (i * 5 + 4) (.int .i64 x.own) = rows (l.set i x) ++ rest := by
 induction l generalizing i with
 | nil => simp at hi
 | cons a l ih =>
  cases i with
  | zero => rw [List.set_cons_zero, rows_cons, rows_cons]; simp [ndC]
  | succ i => ?_
  rw [List.set_cons_succ, rows_cons, rows_cons, List.append_assoc, List.append_assoc, ← ih i (by simpa using hi)]
  simp only [show (i + 1) * 5 = 5 + i * 5 from by omega, show ∀ j, 5 + i * 5 + j = 5 + (i * 5 + j) from fun j => by omega]
  have e : ∀ (j : Nat) (v : Value) (m : List Value), (ndC a ++ m).set (5 + j) v = ndC a ++ m.set j v := fun j v m => by
   rw [List.set_append_right _ _ (by rw [ndC_len]; omega), ndC_len, Nat.add_sub_cancel_left]
  rw [e, e, e, e, e]
theorem Nr.put {w : World} {G cap : Nat} {l : List Nd} (h : Nr w G cap l) (i : Nat) (hi : i < l.length) (x : Nd) :
  Nr (((((w.setCell ⟨G, i * 5, none⟩ (strV x.path)).setCell ⟨G, i * 5 + 1, none⟩ (strV x.data)).setCell ⟨G, i * 5 + 2, none⟩ (.int .i64 x.ver)).setCell ⟨G, i * 5 + 3, none⟩ (.int .i64 x.turn)).setCell ⟨G, i * 5 + 4, none⟩ (.int .i64 x.own)) G cap (l.set i x) := by
 obtain ⟨rest, hg, hrl⟩ := h.ex
 have h1 := heap_setCell_same w G (i * 5) _ TN (strV x.path) hg
 have h2 := heap_setCell_same _ G (i * 5 + 1) _ TN (strV x.data) h1
 have h3 := heap_setCell_same _ G (i * 5 + 2) _ TN (.int .i64 x.ver) h2
 have h4 := heap_setCell_same _ G (i * 5 + 3) _ TN (.int .i64 x.turn) h3
 have h5 := heap_setCell_same _ G (i * 5 + 4) _ TN (.int .i64 x.own) h4
 refine ⟨⟨rest, ?_, by rw [List.length_set]; exact hrl⟩, by rw [List.length_set]; exact h.room, h.most⟩
 rw [h5, ← rows_set l i hi x rest]
 simp [List.setIfInBounds_toArray]
theorem fp_put {S : Nat → Prop} {a w : World} (f : Fp S a w) {b : Nat} (hb : S b ∨ a.heap.size ≤ b) (o : Nat) (v0 v1 v2 v3 v4 : Value) :
  Fp S a (((((w.setCell ⟨b, o, none⟩ v0).setCell ⟨b, o + 1, none⟩ v1).setCell ⟨b, o + 2, none⟩ v2).setCell ⟨b, o + 3, none⟩ v3).setCell ⟨b, o + 4, none⟩ v4) :=
 ((((f.setCell (p := ⟨b, o, none⟩) hb v0).setCell (p := ⟨b, o + 1, none⟩) hb v1).setCell (p := ⟨b, o + 2, none⟩) hb v2).setCell (p := ⟨b, o + 3, none⟩) hb v3).setCell (p := ⟨b, o + 4, none⟩) hb v4
theorem none_filter {q : Nd → Bool} {l : List Nd} (h : ∀ n ∈ l, q n = false) : l.filter (fun n => !q n) = l := by
 rw [List.filter_eq_self]; intro n hn; simp [h n hn]
theorem first_filter {q : Nd → Bool} {l : List Nd} {i : Nat} (hi : i < l.length) (hq : q l[i] = true) (h : ∀ j (hj : j < l.length), j < i → q l[j] = false) : (l.take (i + 1)).filter (fun n => !q n) = l.take i := by
 rw [take_step l i hi, hq, none_filter]
 ·simp
 intro n hn
 obtain ⟨j, hj, rfl⟩ := List.getElem_of_mem hn
 rw [List.length_take] at hj
 rw [List.getElem_take]; exact h j (by omega) (by omega)
theorem Nr.take {w : World} {G cap : Nat} {l : List Nd} (h : Nr w G cap l) (k : Nat) : Nr w G cap (l.take k) := by
 obtain ⟨rest, hg, hl⟩ := h.ex
 refine ⟨⟨rows (l.drop k) ++ rest, ?_, ?_⟩, by have := h.room; rw [List.length_take]; omega, h.most⟩
 ·rw [← List.append_assoc, ← rows_app, List.take_append_drop]; exact hg
 rw [List.length_append, rows_len, List.length_take, List.length_drop]; omega
structure DfR (w : World) (G cap : Nat) (l : List Nd) (v' : Value) (w' : World) : Prop where
 v : v' = .slice (some ⟨G, 0, none⟩) l.length cap
 row : Nr w' G cap l
 fp : Fp (fun k => k = G) w w'
set_option maxHeartbeats 8000000 in
theorem DeleteFunc_c {w : World} {G cap : Nat} {l : List Nd} {f : Value} {q : Nd → Bool} (h : Nr w G cap l) (hs : Sp l) (hq : Pd (fun k => k = G) w f q) (hl : l.length ≤ 4000) :
  Calls Tryz.prog 129 #[.slice (some ⟨G, 0, none⟩) l.length cap, f] w fun e w' => ∃ v', e = .returned v' ∧ DfR w G cap (l.filter (fun n => !q n)) v' w' := by
 have hm := h.most
 have hcr := h.room
 unfold maxLen at hm
 obtain ⟨n, hn⟩ : ∃ n, n = l.length := ⟨_, rfl⟩
 have hi := IndexFunc_c _ f l q w h.ns hs hq.non (by omega)
 obtain ⟨kf, fi, fc, rfl, hen, hcall⟩ := hq.ex
 have HI := Lib.hid hi
 have HX := Lib.hid (And.intro hn (And.intro hs (And.intro hcall h)))
 rw [← hn] at HI ⊢
 have hn6 : n ≤ 4000 := by omega
 have hcn : n ≤ cap := by omega
 clear hi hq hcall h hs hn hl hcr
 go_enter Tryz.func129, Tryz.ntmps129
 go_wp2_with fail
 refine HI.out.mono ?_
 rintro e w1 ⟨⟨z, rfl, hz⟩, hf1⟩
 rcases hz with ⟨rfl, hz⟩ | ⟨i, rfl, hil, hqi, hz⟩
 ·have HR : Hid (DfR w G cap (l.filter (fun n => !q n)) (.slice (some ⟨G, 0, none⟩) n cap) w1) := by
   rw [none_filter hz]
   exact ⟨by rw [HX.out.1], HX.out.2.2.2.keep hf1 id, hf1.any⟩
  clear hz hf1
  go_wp2
  go_ret
  exact ⟨_, rfl, HR.out⟩
 have H0 : Hid (DfM Non q l G cap w i (i + 1) w1) := ⟨⟨l, HX.out.2.2.2.keep hf1 id, rfl, (first_filter hil hqi hz).symm, rfl⟩, Nat.lt_succ_self i, hf1.any⟩
 have hin : i < n := by rw [HX.out.1]; exact hil
 have q1 : ((i : Int) == -1) = false := beq_eq_false_iff_ne.2 (by omega)
 clear hz hf1 hqi hil
 go_wp2_with fail
 go_loopw [5, 6] (fun a b wr => ∃ i j : Nat, j ≤ n ∧ i < n ∧ a = .int .i64 i ∧ b = .int .i64 j ∧ Hid (DfM Non q l G cap w i j wr)) (fun _ b _ => n - (RowKit.intOf b).toNat)
 case atStart => exact ⟨i, i + 1, by omega, hin, rfl, by go_num, H0⟩
 clear H0 hin q1
 obtain ⟨i, j, hj, hin, rfl, rfl, hR⟩ := hrel
 rename_i wr _
 by_cases hlt : j < n
 ·have hjl : j < l.length := by rw [← HX.out.1]; exact hlt
  have hnd := hR.out.cell hjl
  have hgone := fun w' (M : DfM Non q l G cap w i j w') => M.gone hjl
  have hstay := fun w' w'' (M : DfM Non q l G cap w i j w') => M.stays (w' := w'') hjl
  have hcc := fun w1 hf => HX.out.2.2.1 l[j] w1 (HX.out.2.1 _ (List.getElem_mem hjl)) hf
  obtain ⟨b, hb⟩ : ∃ b, q l[j] = b := ⟨_, rfl⟩
  rw [hb] at hcc hgone hstay
  clear hb
  generalize l[j] = x at *
  have hbx := NdAt.box wr x
  have c0 := hnd.c0; have c1 := hnd.c1; have c2 := hnd.c2; have c3 := hnd.c3; have c4 := hnd.c4
  unfold strV at c0 c1
  unfold ndV strV at hcc
  simp only [Nat.zero_add] at c0 c1 c2 c3 c4
  have q3 : ((j : Int) < (n : Int)) = True := eq_true (by omega)
  have q4 : (j < n) = True := eq_true hlt
  have HCC := Lib.hid hcc
  have HB := Lib.hid (And.intro hgone (And.intro hstay hbx))
  have HL := Lib.hid hlt
  clear hnd hcc hgone hstay hbx hjl hlt
  go_wp2_with fail
  rw [hen _ _]
  go_wp2_with fail
  refine (HCC.out _ (hR.out.fp.trans ((Fp.refl Non wr).alloc _) (fun _ h => h.elim))).mono ?_
  rintro e w2 ⟨rfl, hf2⟩
  have hM2 := hR.out.keep (((Fp.refl Non wr).alloc _).then hf2)
  have hbx2 := (HB.out.2.2.keep hf2 id).five
  cases b with
  | true =>
   have hM : Hid (DfM Non q l G cap w i (j + 1) w2) := HB.out.1 w2 hM2 rfl
   have hj1 := HL.out
   clear hf2 hM2 hbx2
   go_wp2
   go_roundw
   case rel => exact ⟨i, j + 1, by omega, hin, rfl, by go_num, hM⟩
   case measure => simp [RowKit.intOf]; omega
  | false => ?_
  obtain ⟨y, hy⟩ := hM2.there (by rw [← HX.out.1]; exact hj)
  obtain ⟨b0, b1, b2, b3, b4⟩ := hbx2
  have y0 := hy.c0; have y1 := hy.c1; have y2 := hy.c2; have y3 := hy.c3; have y4 := hy.c4
  have f0 := hM2.frozen (i * 5); have f1 := hM2.frozen (i * 5 + 1); have f2 := hM2.frozen (i * 5 + 2); have f3 := hM2.frozen (i * 5 + 3); have f4 := hM2.frozen (i * 5 + 4)
  have hM := Lib.hid (HB.out.2.1 w2 (((((w2.setCell ⟨G, i * 5, none⟩ (strV x.path)).setCell ⟨G, i * 5 + 1, none⟩ (strV x.data)).setCell ⟨G, i * 5 + 2, none⟩ (.int .i64 x.ver)).setCell ⟨G, i * 5 + 3, none⟩ (.int .i64 x.turn)).setCell ⟨G, i * 5 + 4, none⟩ (.int .i64 x.own)) hM2 rfl (fun m hm hi => hm.put i hi x) (fp_put (S := fun k => k = G) (Fp.refl _ w2) (.inl rfl) _ _ _ _ _ _))
  have hij := hM2.ij
  have hj1 := HL.out
  have q5 : ((i : Int) < (n : Int)) = True := eq_true (by omega)
  have q6 : (i < n) = True := eq_true hin
  unfold strV at hM
  clear hf2 hM2 hy
  go_wp2
  go_roundw
  case rel => exact ⟨i + 1, j + 1, by omega, by omega, by go_num, by go_num, hM⟩
  case measure => simp [RowKit.intOf]; omega
 have hje : j = n := by omega
 subst hje
 obtain ⟨m, h1, h2, h3, h4⟩ := hR.out.ex
 have hil : (m.take i).length = i := by rw [List.length_take, h2, ← HX.out.1]; omega
 have hcl := clear_in (h1.take i) 0 (j - i) (cap - i) (by omega) (by rw [hil]; omega)
 rw [hil] at hcl
 have hfin : m.take i = l.filter (fun n => !q n) := by rw [h3, List.take_of_length_le (by rw [← HX.out.1]; exact Nat.le_refl _)]
 rw [hfin] at hcl hil
 have HCL := Lib.hid hcl
 have HL := Lib.hid hil
 have q3 : ((j : Int) < (j : Int)) = False := eq_false (by omega)
 have q4 : (cap = i) = False := eq_false (by omega)
 have q5 : (i ≤ j) = True := eq_true (by omega)
 have q6 : ((i : Int) ≤ (j : Int)) = True := eq_true (by omega)
 have q7 : (i ≤ cap) = True := eq_true (by omega)
 have q8 : ((i : Int) ≤ (cap : Int)) = True := eq_true (by omega)
 have q9 : ∃ d, j - i = d + 1 := ⟨j - i - 1, by omega⟩
 obtain ⟨d, hd⟩ := q9
 rw [hd] at HCL
 clear h1 h2 h3 h4 hil hcl hfin hj hlt
 go_wp2_with fail
 obtain ⟨w5, hr, hrow, hf5⟩ := HCL.out
 rw [hr]
 simp only [Result.andThen]
 rw [Oper.upon_value]
 have HR := Lib.hid (And.intro hrow (hR.out.fp.same hf5))
 clear hr hrow hf5
 go_wp2
 go_ret
 exact ⟨_, rfl, ⟨by rw [HL.out]; rfl, HR.out.1, HR.out.2⟩⟩
def Ow (lo : Nat) (w : World) (v : Value) (l : List Nd) : Prop := w.ownsRow lo TN 5 v l.length (rows l)
theorem Ow.ways {lo : Nat} {w : World} {v : Value} {l : List Nd} (h : Ow lo w v l) : (v = .slice none 0 0 ∧ l = []) ∨ ∃ G cap, v = .slice (some ⟨G, 0, none⟩) l.length cap ∧ Nr w G cap l ∧ lo ≤ G := by
 have h' := h
 unfold Ow at h'
 rcases h'.2 with ⟨h0, h1⟩ | ⟨g, cap, cur, e, hb, hg, h1, h2, h3, h4⟩
 ·refine .inl ⟨h0, ?_⟩
  cases l with
  | nil => rfl
  | cons x l => simp at h1
 refine .inr ⟨g, cap, e, ?_⟩
 unfold Ow at h
 rw [e] at h
 exact Nr.of_owns h rfl
theorem Ow.ns {lo : Nat} {w : World} {v : Value} {l : List Nd} (h : Ow lo w v l) : Ns w v l := by
 rcases h.ways with ⟨rfl, rfl⟩ | ⟨G, cap, rfl, h1, _⟩
 ·exact Ns.nil w
 exact h1.ns
theorem Ow.row {lo : Nat} {w : World} {G cap : Nat} {l : List Nd} (h : Nr w G cap l) (hlo : lo ≤ G) : Ow lo w (.slice (some ⟨G, 0, none⟩) l.length cap) l := h.owns hlo
theorem Ow.nil (lo : Nat) (w : World) : Ow lo w (.slice none 0 0) [] := ⟨rfl, .inl ⟨rfl, rfl⟩⟩
theorem Ow.keep {lo : Nat} {w w' : World} {v : Value} {l : List Nd} (h : Ow lo w v l) {S : Nat → Prop} (f : Fp S w w') (hS : ∀ k, v.ownBlock = some k → ¬ S k) : Ow lo w' v l := by
 rcases h.ways with ⟨rfl, rfl⟩ | ⟨G, cap, rfl, h1, h2⟩
 ·exact Ow.nil lo w'
 exact Ow.row (h1.keep f (hS G rfl)) h2
theorem Ow.non {lo : Nat} {w w' : World} {v : Value} {l : List Nd} (h : Ow lo w v l) (f : Fp Non w w') : Ow lo w' v l := h.keep f (fun _ _ h => h)
theorem Ow.low {lo : Nat} {w : World} {v : Value} {l : List Nd} (h : Ow lo w v l) : ∀ k, v.ownBlock = some k → lo ≤ k := by
 rcases h.ways with ⟨rfl, rfl⟩ | ⟨G, cap, rfl, _, h2⟩
 ·intro k hk; simp [Value.ownBlock] at hk
 intro k hk; simp [Value.ownBlock] at hk; omega
theorem app_own (w : World) (lo : Nat) (v : Value) (l m : List Nd) (ty : TypeId) (a : Addr) (n c : Nat) (hv : Ow lo w v l) (hn : n = m.length) (hx : ∀ i (h : i < m.length) j u, (ndC m[i])[j]? = some u → w.cell? (a.add (i * 5 + j)) = some u) (h6 : l.length + m.length ≤ 100000) (hlo : lo ≤ w.heap.size) :
  ∃ v' w', (Builtin.append_ #[TL, TL] ty #[v, .slice (some a) n c]).run Tryz.prog w = .ok v' w' ∧ Ow lo w' v' (l ++ m) ∧ w.grownBy w' v.ownBlock ∧ ∀ k, v'.ownBlock = some k → v.ownBlock = some k ∨ w.heap.size ≤ k := by
 obtain ⟨i, hi, hz, hsz, hby⟩ := info_parts Tryz.infoN
 subst hn
 obtain ⟨v', w', hr, h4, h5, _, h8⟩ := run_append_own_at (P := Tryz.prog) w lo TL ty TN i _ 5 56 Tryz.underlying22 hi hz hsz hby rfl (by decide) v l.length (rows l) hv a m.length c (rows m) (rows_len m)
  (fun j u hu => by
   have hj : j < m.length * 5 := by rw [← rows_len]; exact (List.getElem?_eq_some_iff.1 hu).1
   have hd : j / 5 < m.length := by omega
   have e : j / 5 * 5 + j % 5 = j := by omega
   rw [← e, rows_get m (j / 5) (j % 5) hd (by omega)] at hu
   have := hx (j / 5) hd (j % 5) u hu
   rwa [e] at this)
  (rows_one m) (by unfold maxLen; omega) (by omega) hlo
 refine ⟨v', w', hr, ?_, h5, fun k hk => ?_⟩
 ·unfold Ow
  rw [rows_app, List.length_append]; exact h4
 rcases h8 with e | e
 ·exact .inl (by rw [← e]; exact hk)
 rw [hk] at e; injection e with e; exact .inr (by omega)
structure OwR (w : World) (l : List Nd) (v' : Value) (w' : World) : Prop where
 own : Ow w.heap.size w' v' l
 fp : Fp Non w w'
set_option maxHeartbeats 2000000 in
theorem Clone_own (v : Value) (l : List Nd) (w : World) (hv : Ns w v l) (h5 : l.length ≤ 100000) :
  Calls Tryz.prog 55 #[v] w fun e w' => ∃ v', e = .returned v' ∧ OwR w l v' w' := by
 obtain ⟨ao, cap, rfl, h1, h2, h3⟩ := hv.ex
 cases ao with
 | none =>
  obtain rfl : l = [] := by
   rcases h3 with h | ⟨_, _, h, _⟩
   ·exact h
   cases h
  have hnil : ∀ w : World, (binOp .eql TL (.slice none 0 cap) (.slice none 0 0)).run Tryz.prog w = .ok (.bool true) w := fun w => Lib.run_eql_slice_nil w TL TN none 0 cap 0 0 Tryz.underlying22
  clear h1 h2 h3 hv h5
  simp only [List.length_nil]
  go_enter Tryz.func55, Tryz.ntmps55
  go_wp2
  go_ret
  exact ⟨_, rfl, Ow.nil _ _, Fp.refl _ _⟩
 | some a => ?_
 have hown : Ow w.heap.size (w.alloc (.cells #[] TN)) (.slice (some ⟨w.heap.size, 0, none⟩) 0 0) [] := World.ownsRow_lit w #[] 0 (Nat.le_refl _) (by unfold maxLen; omega) rfl
 have hx : ∀ i (h : i < l.length) j u, (ndC l[i])[j]? = some u → (w.alloc (.cells #[] TN)).cell? (a.add (i * 5 + j)) = some u := fun i hi j u hu => by
  rcases h3 with h | ⟨g, o, e, _, hc⟩
  ·subst h; simp at hi
  injection e with e; subst e
  have := ((hc i hi).keep ((Fp.refl Non w).alloc (.cells #[] TN)) id).get j u hu
  rw [Addr.add_lit] at this ⊢
  rwa [Nat.add_assoc] at this
 have hap : ∀ ty, ∃ v' w', (Builtin.append_ #[TL, TL] ty #[.slice (some ⟨w.heap.size, 0, none⟩) 0 0, .slice (some a) l.length cap]).run Tryz.prog (w.alloc (.cells #[] TN)) = .ok v' w' ∧ OwR w l v' w' := fun ty => by
  obtain ⟨v', w', hr, ho, hg, _⟩ := app_own (w.alloc (.cells #[] TN)) w.heap.size _ [] l ty a l.length cap hown rfl hx (by simp; omega) (by simp)
  exact ⟨v', w', hr, ho, ((Fp.refl Non w).alloc _).grown hg (fun k hk => .inr (by simp [Value.ownBlock] at hk; omega))⟩
 have hnil := nil_slice
 have HA2 := Lib.hid (hap TL)
 clear hap hown hx hv h1 h2 h3 h5
 generalize l.length = n at *
 go_enter Tryz.func55, Tryz.ntmps55
 go_wp2_with (at_builtin; go_must (refine wpList_app rfl _ _ _ _ rfl _ _ rfl rfl (OwR w l) HA2.out ?_))
 intro u w2 hR
 have HR := Lib.hid hR
 clear hR
 go_wp2
 go_ret
 exact ⟨_, rfl, HR.out⟩
structure ChR (lo : Nat) (w : World) (v : Value) (l : List Nd) (v' : Value) (w' : World) : Prop where
 own : Ow lo w' v' l
 fp : Fp (fun k => v.ownBlock = some k) w w'
 new : ∀ k, v'.ownBlock = some k → v.ownBlock = some k ∨ w.heap.size ≤ k
set_option maxHeartbeats 2000000 in
theorem Insert_own {lo : Nat} {w : World} {v : Value} {X : Nat} {l : List Nd} {x : Nd} (h : Ow lo w v l) (k : Nat) (hk : k ≤ l.length) (hX : w.heap[X]? = some (.cells (ndC x).toArray TN (0, 0))) (hne : v.ownBlock ≠ some X) (hl : l.length ≤ 4000) (hlo : lo ≤ w.heap.size) :
  Calls Tryz.prog 125 #[v, .int .i64 (k : Int), .slice (some ⟨X, 0, none⟩) 1 1] w fun e w' => ∃ v', e = .returned v' ∧ ChR lo w v (ins l k x) v' w' := by
 have hnd : NdAt w X 0 x := ⟨by rw [cell_of_row _ _ _ _ _ _ hX]; rfl, by rw [cell_of_row _ _ _ _ _ _ hX]; rfl, by rw [cell_of_row _ _ _ _ _ _ hX]; rfl, by rw [cell_of_row _ _ _ _ _ _ hX]; rfl, by rw [cell_of_row _ _ _ _ _ _ hX]; rfl⟩
 rcases h.ways with ⟨rfl, rfl⟩ | ⟨G, cap, rfl, h1, h2⟩
 ·obtain rfl : k = 0 := by simpa using hk
  have hap : ∀ ty, ∃ v' w', (Builtin.append_ #[TL, TL] ty #[.slice none 0 0, .slice (some ⟨X, 0, none⟩) 1 1]).run Tryz.prog w = .ok v' w' ∧ ChR lo w (.slice none 0 0) (ins [] 0 x) v' w' := fun ty => by
   obtain ⟨v', w', hr, ho, hg, hn8⟩ := app_own w lo (.slice none 0 0) [] [x] ty ⟨X, 0, none⟩ 1 1 h rfl (fun i hi j u hu => by
    have hi0 : i = 0 := by simp at hi; omega
    subst hi0
    have := hnd.get j u hu
    rwa [show 0 * 5 + j = j from by omega]) (by simp) hlo
   exact ⟨v', w', hr, ho, (Fp.refl _ w).grown hg (fun k hk => .inl hk), hn8⟩
  have HA := Lib.hid hap
  clear hap h hk hX hnd hl
  go_enter Tryz.func125, Tryz.ntmps125
  go_wp2_with (at_builtin; go_must (refine wpList_app rfl _ _ _ _ rfl _ _ rfl rfl (ChR lo w (.slice none 0 0) (ins [] 0 x)) (HA.out TL) ?_))
  all_goals
   intro v2 w2 hR2
   have HR := Lib.hid hR2
   clear hR2
   go_wp2
   go_ret
   exact ⟨_, rfl, HR.out⟩
 have hne' : X ≠ G := fun e => hne (by rw [e]; rfl)
 have hf : ∀ w', Fp (fun j => j = G) w w' → Fp (fun k => (Value.slice (some ⟨G, 0, none⟩) l.length cap).ownBlock = some k) w w' := fun w' f => f.mono (fun k hk => by rw [hk]; rfl)
 by_cases h0 : 0 < l.length
 ·refine (Insert_c h1 k hk hX hne' hl h0).mono ?_
  rintro e w' ⟨v', rfl, hR⟩
  obtain ⟨G', cap', rfl, a1, a2, a3⟩ := hR.ex
  refine ⟨_, rfl, ?_, hf w' a3, fun k hk => by rcases a2 with e | e <;> (simp only [Value.ownBlock, Option.some.injEq] at hk ⊢; omega)⟩
  have := Ow.row (lo := lo) a1 (by rcases a2 with e | e <;> omega)
  rwa [ins_length] at this
 obtain rfl : l = [] := List.eq_nil_of_length_eq_zero (by omega)
 obtain rfl : k = 0 := by simpa using hk
 have hap : ∀ ty, ∃ v' w', (Builtin.append_ #[TL, TL] ty #[.slice (some ⟨G, 0, none⟩) 0 cap, .slice (some ⟨X, 0, none⟩) 1 1]).run Tryz.prog w = .ok v' w' ∧ ChR lo w (.slice (some ⟨G, 0, none⟩) 0 cap) (ins [] 0 x) v' w' := fun ty => by
  obtain ⟨v', w', hr, ho, hg, hn8⟩ := app_own w lo (.slice (some ⟨G, 0, none⟩) 0 cap) [] [x] ty ⟨X, 0, none⟩ 1 1 h rfl (fun i hi j u hu => by
   have hi0 : i = 0 := by simp at hi; omega
   subst hi0
   have := hnd.get j u hu
   rwa [show 0 * 5 + j = j from by omega]) (by simp) hlo
  exact ⟨v', w', hr, ho, (Fp.refl _ w).grown hg (fun k hk => .inl hk), hn8⟩
 have HA := Lib.hid hap
 have hm := h1.most
 unfold maxLen at hm
 clear hap h hk hX hnd hl h1 hf h0
 simp only [List.length_nil]
 go_enter Tryz.func125, Tryz.ntmps125
 go_wp2_with (at_builtin; go_must (refine wpList_app rfl _ _ _ _ rfl _ _ rfl rfl (ChR lo w (.slice (some ⟨G, 0, none⟩) 0 cap) (ins [] 0 x)) (HA.out TL) ?_))
 all_goals
  intro v2 w2 hR2
  have HR := Lib.hid hR2
  clear hR2
  go_wp2
  go_ret
  exact ⟨_, rfl, HR.out⟩
end Go.Proofs.YtphoglepiegeiaaGreatDoor
