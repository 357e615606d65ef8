/- slices.DeleteFunc at holds (gen_j.py) -/
import Derived.Test.YtenaggleepoclaaGreatJf
namespace Go.Proofs.YtenaggleepoclaaGreat
set_option maxRecDepth 20000
set_option linter.unusedVariables false
set_option linter.unusedSimpArgs false
open Go.RowKit Pm
theorem PdH.sub {S T : Nat → Prop} {wc : World} {f : Value} {q : Hl → Bool} (h : PdH S wc f q) (k : ∀ i, T i → S i) : PdH T wc f q := by
  obtain ⟨kf, fi, cap, e, h1, h2⟩ := h.ex
  exact ⟨kf, fi, cap, e, h1, fun n w1 hn hf => h2 n w1 hn (hf.mono k)⟩
theorem clear_inH {w : World} {G cap : Nat} {l : List Hl} (h : NrH w G cap l) (ty : TypeId) (n c : Nat) (h0 : 0 < n) (hn : l.length + n ≤ cap) :
    ∃ w', (Builtin.clear_ #[TLH] ty #[.slice (some ⟨G, l.length * 3, none⟩) n c]).run Tryz.prog w = .ok (.tuple #[]) w' ∧ NrH w' G cap l ∧ Fp (fun j => j = G) w w' := by
  obtain ⟨rest, hg, hrl⟩ := h.ex
  have hlc : (rowsH l ++ rest).length = cap * 3 := by rw [List.length_append, rowsH_len]; omega
  obtain ⟨zs, hz, hr⟩ := run_clear_nodesH w ty G (l.length * 3) n c (rowsH l ++ rest) hg (by rw [hlc]; omega) h0
  refine ⟨_, hr, ⟨⟨zs ++ (rowsH l ++ rest).drop (l.length * 3 + n * 3), ?_, ?_⟩, h.room, h.most⟩, fp_setRow w G _⟩
  · rw [setRow_heap w G _ _ TH _ hg]
    congr 2
    rw [← rowsH_len l, List.take_left, List.append_assoc]
  · rw [List.length_append, List.length_drop, hz, hlc]; omega

/-- In the midst of DeleteFunc: i that stay, of the j that were asked. -/
structure DfMH (S : Nat → Prop) (q : Hl → Bool) (l : List Hl) (G cap : Nat) (w : World) (i j : Nat) (wr : World) : Prop where
  ex : ∃ m, NrH wr G cap m ∧ m.length = l.length ∧ m.take i = (l.take j).filter (fun n => !q n) ∧ m.drop j = l.drop j
  ij : i < j
  fp : Fp (fun k => k = G) w wr

theorem DfMH.keep {S : Nat → Prop} {q : Hl → Bool} {l : List Hl} {G cap i j : Nat} {w wr w' : World} (h : DfMH S q l G cap w i j wr) (f : Fp Non wr w') : DfMH S q l G cap w i j w' := by
  obtain ⟨m, h1, h2⟩ := h.ex
  exact ⟨⟨m, h1.keep f (fun h => h), h2⟩, h.ij, h.fp.then f⟩
theorem take_stepH (l : List Hl) (j : Nat) (hj : j < l.length) (p : Hl → Bool) : (l.take (j + 1)).filter p = (l.take j).filter p ++ if p l[j] = true then [l[j]] else [] := by
  rw [List.take_succ_eq_append_getElem hj, List.filter_append]
  congr 1
  by_cases h : p l[j] = true <;> simp [h]
theorem DfMH.gone {S : Nat → Prop} {q : Hl → Bool} {l : List Hl} {G cap i j : Nat} {w wr : World} (h : DfMH S q l G cap w i j wr) (hj : j < l.length) (hq : q l[j] = true) : DfMH S q l G cap w i (j + 1) wr := by
  obtain ⟨m, h1, h2, h3, h4⟩ := h.ex
  refine ⟨⟨m, h1, h2, ?_, ?_⟩, Nat.lt_succ_of_lt h.ij, h.fp⟩
  · rw [take_stepH l j hj, h3]; simp [hq]
  · have := congrArg (List.drop 1) h4
    rwa [List.drop_drop, List.drop_drop] at this
theorem DfMH.stays {S : Nat → Prop} {q : Hl → Bool} {l : List Hl} {G cap i j : Nat} {w wr w' : World} (h : DfMH S q l G cap w i j wr) (hj : j < l.length) (hq : q l[j] = false)
    (hs : ∀ m, NrH wr G cap m → i < m.length → NrH w' G cap (m.set i l[j])) (f : Fp (fun k => k = G) wr w') : DfMH S q l G cap w (i + 1) (j + 1) w' := by
  obtain ⟨m, h1, h2, h3, h4⟩ := h.ex
  have hi := h.ij
  refine ⟨⟨m.set i l[j], hs m h1 (by omega), by rw [List.length_set, h2], ?_, ?_⟩, by omega, h.fp.same f⟩
  · rw [take_stepH l j hj, ← h3]
    simp only [hq, Bool.not_false, if_true]
    rw [List.take_succ_eq_append_getElem (by rw [List.length_set]; omega), List.getElem_set_self, List.take_set_of_le (Nat.le_refl _)]
  · rw [List.drop_set_of_lt (by omega)]
    have := congrArg (List.drop 1) h4
    rwa [List.drop_drop, List.drop_drop] at this
theorem DfMH.cell {S : Nat → Prop} {q : Hl → Bool} {l : List Hl} {G cap i j : Nat} {w wr : World} (h : DfMH S q l G cap w i j wr) (hj : j < l.length) : NdAtH wr G (0 + j * 3) l[j] := by
  obtain ⟨m, h1, h2, h3, h4⟩ := h.ex
  have hm : j < m.length := by omega
  have e : m[j] = l[j] := by
    have h5 : (m.drop j)[0]? = (l.drop j)[0]? := by rw [h4]
    rw [List.getElem?_drop, List.getElem?_drop, List.getElem?_eq_getElem (by omega), List.getElem?_eq_getElem (by omega)] at h5
    exact Option.some.inj h5
  rw [← e]; exact h1.nd j hm
theorem DfMH.there {S : Nat → Prop} {q : Hl → Bool} {l : List Hl} {G cap i j : Nat} {w wr : World} (h : DfMH S q l G cap w i j wr) (hj : j ≤ l.length) : ∃ y, NdAtH wr G (i * 3) y := by
  obtain ⟨m, h1, h2, h3, h4⟩ := h.ex
  have hi := h.ij
  have := h1.nd i (by omega)
  rw [Nat.zero_add] at this
  exact ⟨_, this⟩
theorem DfMH.frozen {S : Nat → Prop} {q : Hl → Bool} {l : List Hl} {G cap i j : Nat} {w wr : World} (h : DfMH S q l G cap w i j wr) (o : Nat) : wr.frozen? ⟨G, o, none⟩ = false := by
  obtain ⟨m, h1, _⟩ := h.ex; exact h1.frozen o
/-- A hold stored into a row. -/
theorem rows_setH (l : List Hl) (i : Nat) (hi : i < l.length) (x : Hl) (rest : List Value) : (((rowsH l ++ rest).set (i * 3) (strV x.d)).set (i * 3 + 1) (.int .i64 x.t)).set (i * 3 + 2) (.int .i64 x.a) = rowsH (l.set i x) ++ rest := by
  induction l generalizing i with
  | nil => simp at hi
  | cons a l ih =>
    cases i with
    | zero => rw [List.set_cons_zero, rowsH_cons, rowsH_cons]; simp [hlC]
    | succ i =>
      rw [List.set_cons_succ, rowsH_cons, rowsH_cons, List.append_assoc, List.append_assoc, ← ih i (by simpa using hi)]
      simp only [show (i + 1) * 3 = 3 + i * 3 from by omega, show ∀ j, 3 + i * 3 + j = 3 + (i * 3 + j) from fun j => by omega]
      have e : ∀ (j : Nat) (v : Value) (m : List Value), (hlC a ++ m).set (3 + j) v = hlC a ++ m.set j v := fun j v m => by
        rw [List.set_append_right _ _ (by rw [hlC_len]; omega), hlC_len, Nat.add_sub_cancel_left]
      rw [e, e, e]
theorem NrH.put {w : World} {G cap : Nat} {l : List Hl} (h : NrH w G cap l) (i : Nat) (hi : i < l.length) (x : Hl) :
    NrH (((w.setCell ⟨G, i * 3, none⟩ (strV x.d)).setCell ⟨G, i * 3 + 1, none⟩ (.int .i64 x.t)).setCell ⟨G, i * 3 + 2, none⟩ (.int .i64 x.a)) G cap (l.set i x) := by
  obtain ⟨rest, hg, hrl⟩ := h.ex
  have h1 := heap_setCell_same w G (i * 3) _ TH (strV x.d) hg
  have h2 := heap_setCell_same _ G (i * 3 + 1) _ TH (.int .i64 x.t) h1
  have h3 := heap_setCell_same _ G (i * 3 + 2) _ TH (.int .i64 x.a) h2
  refine ⟨⟨rest, ?_, by rw [List.length_set]; exact hrl⟩, by rw [List.length_set]; exact h.room, h.most⟩
  rw [h3, ← rows_setH l i hi x rest]
  simp [List.setIfInBounds_toArray]
theorem fp_putH {S : Nat → Prop} {a w : World} (f : Fp S a w) {b : Nat} (hb : S b ∨ a.heap.size ≤ b) (o : Nat) (v0 v1 v2 : Value) :
    Fp S a (((w.setCell ⟨b, o, none⟩ v0).setCell ⟨b, o + 1, none⟩ v1).setCell ⟨b, o + 2, none⟩ v2) :=
  ((f.setCell (p := ⟨b, o, none⟩) hb v0).setCell (p := ⟨b, o + 1, none⟩) hb v1).setCell (p := ⟨b, o + 2, none⟩) hb v2
theorem box3H (w : World) (x : Hl) : (w.alloc (.cells #[strV x.d, .int .i64 x.t, .int .i64 x.a] TH)).cell? ⟨w.heap.size, 0, none⟩ = some (strV x.d) ∧ (w.alloc (.cells #[strV x.d, .int .i64 x.t, .int .i64 x.a] TH)).cell? ⟨w.heap.size, 1, none⟩ = some (.int .i64 x.t) ∧ (w.alloc (.cells #[strV x.d, .int .i64 x.t, .int .i64 x.a] TH)).cell? ⟨w.heap.size, 2, none⟩ = some (.int .i64 x.a) := by
  have h := heap_alloc_new w (.cells #[strV x.d, .int .i64 x.t, .int .i64 x.a] TH)
  exact ⟨by rw [cell_of_row _ _ _ _ _ _ h]; rfl, by rw [cell_of_row _ _ _ _ _ _ h]; rfl, by rw [cell_of_row _ _ _ _ _ _ h]; rfl⟩

theorem none_filterH {q : Hl → Bool} {l : List Hl} (h : ∀ n ∈ l, q n = false) : l.filter (fun n => !q n) = l := by
  rw [List.filter_eq_self]; intro n hn; simp [h n hn]
theorem first_filterH {q : Hl → Bool} {l : List Hl} {i : Nat} (hi : i < l.length) (hq : q l[i] = true) (h : ∀ j (hj : j < l.length), j < i → q l[j] = false) : (l.take (i + 1)).filter (fun n => !q n) = l.take i := by
  rw [take_stepH l i hi, hq, none_filterH]
  · simp
  · intro n hn
    obtain ⟨j, hj, rfl⟩ := List.getElem_of_mem hn
    rw [List.length_take] at hj
    rw [List.getElem_take]; exact h j (by omega) (by omega)

theorem NrH.take {w : World} {G cap : Nat} {l : List Hl} (h : NrH w G cap l) (k : Nat) : NrH w G cap (l.take k) := by
  obtain ⟨rest, hg, hl⟩ := h.ex
  refine ⟨⟨rowsH (l.drop k) ++ rest, ?_, ?_⟩, by have := h.room; rw [List.length_take]; omega, h.most⟩
  · rw [← List.append_assoc, ← rowsH_app, List.take_append_drop]; exact hg
  · rw [List.length_append, rowsH_len, List.length_take, List.length_drop]; omega
/-- What DeleteFunc leaves. -/
structure DfRH (w : World) (G cap : Nat) (l : List Hl) (v' : Value) (w' : World) : Prop where
  v : v' = .slice (some ⟨G, 0, none⟩) l.length cap
  row : NrH w' G cap l
  fp : Fp (fun k => k = G) w w'

set_option maxHeartbeats 8000000 in
theorem DeleteFH_c {w : World} {G cap : Nat} {l : List Hl} {f : Value} {q : Hl → Bool} (h : NrH w G cap l) (hs : HSp l) (hq : PdH (fun k => k = G) w f q) (hl : l.length ≤ 100000) :
    Calls Tryz.prog 41 #[.slice (some ⟨G, 0, none⟩) l.length cap, f] w fun e w' => ∃ v', e = .returned v' ∧ DfRH w G cap (l.filter (fun n => !q n)) v' w' := by
  have hm := h.most
  have hcr := h.room
  unfold maxLen at hm
  obtain ⟨n, hn⟩ : ∃ n, n = l.length := ⟨_, rfl⟩
  have hi := IndexH_c _ f l q w h.ns hs hq.non (by omega)
  obtain ⟨kf, fi, fc, rfl, hen, hcall⟩ := hq.ex
  have HI := Lib.hid hi
  have HX := Lib.hid (And.intro hn (And.intro hs (And.intro hcall h)))
  rw [← hn] at HI ⊢
  have hn6 : n ≤ 100000 := by omega
  have hcn : n ≤ cap := by omega
  clear hi hq hcall h hs hn hl hcr
  go_enter Tryz.func41, Tryz.ntmps41
  go_wp2_with fail
  refine HI.out.mono ?_
  rintro e w1 ⟨⟨z, rfl, hz⟩, hf1⟩
  rcases hz with ⟨rfl, hz⟩ | ⟨i, rfl, hil, hqi, hz⟩
  · have HR : Hid (DfRH w G cap (l.filter (fun n => !q n)) (.slice (some ⟨G, 0, none⟩) n cap) w1) := by
      rw [none_filterH hz]
      exact ⟨by rw [HX.out.1], HX.out.2.2.2.keep hf1 (fun h => h), hf1.any⟩
    clear hz hf1
    go_wp2
    go_ret
    exact ⟨_, rfl, HR.out⟩
  · have H0 : Hid (DfMH Non q l G cap w i (i + 1) w1) := ⟨⟨l, HX.out.2.2.2.keep hf1 (fun h => h), rfl, (first_filterH hil hqi hz).symm, rfl⟩, Nat.lt_succ_self i, hf1.any⟩
    have hin : i < n := by rw [HX.out.1]; exact hil
    have q1 : ((i : Int) == -1) = false := beq_eq_false_iff_ne.2 (by omega)
    clear hz hf1 hqi hil
    go_wp2_with fail
    go_loopw [5, 6] (fun a b wr => ∃ i j : Nat, j ≤ n ∧ i < n ∧ a = .int .i64 i ∧ b = .int .i64 j ∧ Hid (DfMH Non q l G cap w i j wr)) (fun _ b _ => n - (RowKit.intOf b).toNat)
    case atStart => exact ⟨i, i + 1, by omega, hin, rfl, by go_num, H0⟩
    case round =>
      clear H0 hin q1
      obtain ⟨i, j, hj, hin, rfl, rfl, hR⟩ := hrel
      rename_i wr _
      by_cases hlt : j < n
      · have hjl : j < l.length := by rw [← HX.out.1]; exact hlt
        have hnd := hR.out.cell hjl
        have hgone := fun w' (M : DfMH Non q l G cap w i j w') => M.gone hjl
        have hstay := fun w' w'' (M : DfMH Non q l G cap w i j w') => M.stays (w' := w'') hjl
        have hcc := fun w1 hf => HX.out.2.2.1 l[j] w1 (HX.out.2.1 _ (List.getElem_mem hjl)) hf
        obtain ⟨b, hb⟩ : ∃ b, q l[j] = b := ⟨_, rfl⟩
        rw [hb] at hcc hgone hstay
        clear hb
        generalize l[j] = x at *
        have hbx := box3H wr x
        have c0 := hnd.c0; have c1 := hnd.c1; have c2 := hnd.c2
        unfold strV at c0
        unfold hlV strV at hcc
        unfold strV at hbx
        simp only [Nat.zero_add] at c0 c1 c2
        have q3 : ((j : Int) < (n : Int)) = True := eq_true (by omega)
        have q4 : (j < n) = True := eq_true hlt
        have HCC := Lib.hid hcc
        have HB := Lib.hid (And.intro hgone (And.intro hstay hbx))
        have HL := Lib.hid hlt
        clear hnd hcc hgone hstay hbx hjl hlt
        go_wp2_with fail
        rw [hen _ _]
        go_wp2_with fail
        refine (HCC.out _ (hR.out.fp.trans ((Fp.refl Non wr).alloc _) (fun _ h => h.elim))).mono ?_
        rintro e w2 ⟨rfl, hf2⟩
        have hM2 := hR.out.keep (((Fp.refl Non wr).alloc _).then hf2)
        have hbx2 := And.intro (hf2.cell HB.out.2.2.1 (fun h => h)) (And.intro (hf2.cell HB.out.2.2.2.1 (fun h => h)) (hf2.cell HB.out.2.2.2.2 (fun h => h)))
        cases b with
        | true =>
          have hM : Hid (DfMH Non q l G cap w i (j + 1) w2) := HB.out.1 w2 hM2 rfl
          have hj1 := HL.out
          clear hf2 hM2 hbx2
          go_wp2
          go_roundw
          case rel => exact ⟨i, j + 1, by omega, hin, rfl, by go_num, hM⟩
          case measure => simp [RowKit.intOf]; omega
        | false =>
          obtain ⟨y, hy⟩ := hM2.there (by rw [← HX.out.1]; exact hj)
          obtain ⟨b0, b1, b2⟩ := hbx2
          have y0 := hy.c0; have y1 := hy.c1; have y2 := hy.c2
          have f0 := hM2.frozen (i * 3); have f1 := hM2.frozen (i * 3 + 1); have f2 := hM2.frozen (i * 3 + 2)
          have hM := Lib.hid (HB.out.2.1 w2 (((w2.setCell ⟨G, i * 3, none⟩ (strV x.d)).setCell ⟨G, i * 3 + 1, none⟩ (.int .i64 x.t)).setCell ⟨G, i * 3 + 2, none⟩ (.int .i64 x.a)) hM2 rfl (fun m hm hi => hm.put i hi x) (fp_putH (S := fun k => k = G) (Fp.refl _ w2) (.inl rfl) (i * 3) _ _ _))
          have hij := hM2.ij
          have hj1 := HL.out
          have q5 : ((i : Int) < (n : Int)) = True := eq_true (by omega)
          have q6 : (i < n) = True := eq_true hin
          unfold strV at hM
          clear hf2 hM2 hy
          go_wp2
          go_roundw
          case rel => exact ⟨i + 1, j + 1, by omega, by omega, by go_num, by go_num, hM⟩
          case measure => simp [RowKit.intOf]; omega
      · have hje : j = n := by omega
        subst hje
        obtain ⟨m, h1, h2, h3, h4⟩ := hR.out.ex
        have hil : (m.take i).length = i := by rw [List.length_take, h2, ← HX.out.1]; omega
        have hcl := clear_inH (h1.take i) 0 (j - i) (cap - i) (by omega) (by rw [hil]; omega)
        rw [hil] at hcl
        have hfin : m.take i = l.filter (fun n => !q n) := by rw [h3, List.take_of_length_le (by rw [← HX.out.1]; exact Nat.le_refl _)]
        rw [hfin] at hcl hil
        have HCL := Lib.hid hcl
        have HL := Lib.hid hil
        have q3 : ((j : Int) < (j : Int)) = False := eq_false (by omega)
        have q4 : (cap = i) = False := eq_false (by omega)
        have q5 : (i ≤ j) = True := eq_true (by omega)
        have q6 : ((i : Int) ≤ (j : Int)) = True := eq_true (by omega)
        have q7 : (i ≤ cap) = True := eq_true (by omega)
        have q8 : ((i : Int) ≤ (cap : Int)) = True := eq_true (by omega)
        have q9 : ∃ d, j - i = d + 1 := ⟨j - i - 1, by omega⟩
        obtain ⟨d, hd⟩ := q9
        rw [hd] at HCL
        clear h1 h2 h3 h4 hil hcl hfin hj hlt
        go_wp2_with fail
        obtain ⟨w5, hr, hrow, hf5⟩ := HCL.out
        rw [hr]
        simp only [Result.andThen]
        rw [Oper.upon_value]
        have HR := Lib.hid (And.intro hrow (hR.out.fp.same hf5))
        clear hr hrow hf5
        go_wp2
        go_ret
        exact ⟨_, rfl, ⟨by rw [HL.out]; rfl, HR.out.1, HR.out.2⟩⟩

set_option maxHeartbeats 2000000 in
theorem DeleteFH_own {lo : Nat} {w : World} {v f : Value} {l : List Hl} {q : Hl → Bool} (h : OwH lo w v l) (hs : HSp l) (hq : PdH (fun k => v.ownBlock = some k) w f q) (hl : l.length ≤ 100000) :
    Calls Tryz.prog 41 #[v, f] w fun e w' => ∃ v', e = .returned v' ∧ ChRH lo w v (l.filter (fun n => !q n)) v' w' := by
  rcases h.ways with ⟨rfl, rfl⟩ | ⟨G, cap, rfl, h1, h2⟩
  · have HI := Lib.hid (IndexH_c (.slice none 0 0) f [] q w (NsH.nil w) hs hq.non (by simp))
    obtain ⟨kf, fi, fc, rfl, hen, hcall⟩ := hq.ex
    clear hq hcall h hs hl
    go_enter Tryz.func41, Tryz.ntmps41
    go_wp2_with fail
    refine HI.out.mono ?_
    rintro e w1 ⟨⟨z, rfl, hz⟩, hf1⟩
    rcases hz with ⟨rfl, hz⟩ | ⟨i, rfl, hil, hqi, hz⟩
    · have HF := Lib.hid hf1
      clear hf1 hz
      go_wp2
      go_ret
      exact ⟨_, rfl, OwH.nil _ _, HF.out.any, fun k hk => .inl hk⟩
    · simp at hil
  · refine (DeleteFH_c h1 hs (hq.sub (fun i hi => by rw [hi]; rfl)) hl).mono ?_
    rintro e w' ⟨v', rfl, hR⟩
    obtain rfl := hR.v
    exact ⟨_, rfl, OwH.row hR.row h2, hR.fp.mono (fun k hk => by rw [hk]; rfl), fun k hk => .inl hk⟩
end Go.Proofs.YtenaggleepoclaaGreat
