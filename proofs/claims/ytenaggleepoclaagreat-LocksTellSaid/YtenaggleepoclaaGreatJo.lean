/- inOrder: a row of texts of the call's own, sorted, each once; Dirs -/
import Derived.Test.YtenaggleepoclaaGreatJs
import Derived.Test.YtenaggleepoclaaGreatShelf
import Derived.Lib.OwnBridge
import Derived.Sort.OwnSorted
namespace Go.Proofs.YtenaggleepoclaaGreat
set_option maxRecDepth 20000
set_option linter.unusedVariables false
set_option linter.unusedSimpArgs false
open Go.RowKit Pm

theorem le_lt (a b : Bs) : (a ≤ b) ↔ lt b a = false := by
  unfold lt
  rw [bytesLess_eq, decide_eq_false_iff_not]
  exact List.not_lt.symm
theorem ms_weak (ss : List Bs) : (ss.mergeSort fun x y => decide (x ≤ y)).Pairwise (fun a b => lt b a = false) := by
  have h := List.pairwise_mergeSort (le := fun x y : Bs => decide (x ≤ y)) (fun a b c h1 h2 => by
    rw [decide_eq_true_eq] at *
    rw [le_lt] at *
    cases e : lt c a with
    | false => rfl
    | true =>
      have := lt_of_le_lt (a := b) (b := c) (c := a) h2 e
      rw [h1] at this; cases this) (fun a b => by
    rw [Bool.or_eq_true, decide_eq_true_eq, decide_eq_true_eq, le_lt, le_lt]
    cases e : lt b a with
    | false => exact .inl rfl
    | true => exact .inr (lt_asymm e)) ss
  exact h.imp (fun {a b} k => (le_lt a b).1 (by simpa using k))
theorem cmp_up {s : List Bs} (h : s.Pairwise (fun a b => lt b a = false)) : ∀ m, m ≤ s.length → Up (Lib.compactUpTo s.toArray m) ∧ ∀ x, x ∈ Lib.compactUpTo s.toArray m ↔ ∃ j, ∃ hj : j < s.length, j < m ∧ s[j] = x
  | 0, _ => ⟨List.Pairwise.nil, fun x => by simp [Lib.compactUpTo]⟩
  | m + 1, hm => by
    obtain ⟨h1, h2⟩ := cmp_up h m (by omega)
    have hmm : m < s.length := by omega
    have e1 : s.toArray[m]! = s[m] := by rw [getElem!_pos s.toArray m (by simpa using hmm)]; simp
    have hw : ∀ i j (hi : i < s.length) (hj : j < s.length), i < j → lt s[j] s[i] = false := fun i j hi hj hij => List.pairwise_iff_getElem.1 h i j hi hj hij
    rw [Lib.compactUpTo_succ, e1]
    cases hk : Lib.keeps s.toArray m with
    | true =>
      rw [if_pos rfl]
      refine ⟨?_, fun x => ?_⟩
      · show List.Pairwise _ _
        rw [List.pairwise_append]
        refine ⟨h1, List.pairwise_singleton _ _, fun x hx y hy => ?_⟩
        rw [List.mem_singleton] at hy
        subst hy
        obtain ⟨j, hj, hjm, rfl⟩ := (h2 x).1 hx
        unfold Lib.keeps at hk
        rw [decide_eq_true_eq] at hk
        have hne : s[m] ≠ s[m - 1]'(by omega) := by
          rcases hk with hk | hk
          · omega
          · rw [e1, getElem!_pos s.toArray (m - 1) (by simpa using (by omega : m - 1 < s.length))] at hk
            simpa using hk
        have h3 := lt_of (hw (m - 1) m (by omega) hmm (by omega)) hne
        rcases Nat.lt_or_eq_of_le (show j ≤ m - 1 by omega) with e | e
        · exact lt_of_le_lt (hw j (m - 1) hj (by omega) e) h3
        · subst e; exact h3
      · rw [List.mem_append, List.mem_singleton, h2]
        constructor
        · rintro (⟨j, hj, hjm, e⟩ | e)
          · exact ⟨j, hj, by omega, e⟩
          · exact ⟨m, hmm, by omega, e.symm⟩
        · rintro ⟨j, hj, hjm, e⟩
          rcases Nat.lt_or_eq_of_le (show j ≤ m by omega) with c | c
          · exact .inl ⟨j, hj, c, e⟩
          · subst c; exact .inr e.symm
    | false =>
      rw [if_neg (by simp), List.append_nil]
      refine ⟨h1, fun x => ?_⟩
      unfold Lib.keeps at hk
      rw [decide_eq_false_iff_not, not_or, Decidable.not_not] at hk
      obtain ⟨h0, hk⟩ := hk
      rw [e1, getElem!_pos s.toArray (m - 1) (by simpa using (by omega : m - 1 < s.length))] at hk
      have hk : s[m] = s[m - 1]'(by omega) := by simpa using hk
      rw [h2]
      constructor
      · rintro ⟨j, hj, hjm, e⟩; exact ⟨j, hj, by omega, e⟩
      · rintro ⟨j, hj, hjm, e⟩
        rcases Nat.lt_or_eq_of_le (show j ≤ m by omega) with c | c
        · exact ⟨j, hj, c, e⟩
        · subst c; exact ⟨j - 1, by omega, by omega, by rw [← hk]; exact e⟩
theorem cmp_ord (ss : List Bs) : Lib.compact (ss.mergeSort fun x y => decide (x ≤ y)) = ordB ss := by
  have h := cmp_up (ms_weak ss) (ss.mergeSort fun x y => decide (x ≤ y)).length (Nat.le_refl _)
  refine ordB_eq h.1 (fun x => ?_)
  show x ∈ Lib.compactUpTo _ _ ↔ _
  rw [h.2, ← (List.mergeSort_perm ss (fun x y => decide (x ≤ y))).mem_iff]
  constructor
  · rintro ⟨j, hj, _, rfl⟩; exact List.getElem_mem hj
  · intro hx
    obtain ⟨j, hj, e⟩ := List.getElem_of_mem hx
    exact ⟨j, hj, hj, e⟩

theorem rows_tx (l : List Bs) : rowsG txC l = l.map encStr := by
  unfold rowsG txC strV B
  induction l with
  | nil => rfl
  | cons x l ih => rw [List.flatMap_cons, ih, List.map_cons]; rfl
/-- What a change of texts of the call's own leaves. -/
structure ChRS (lo : Nat) (w : World) (v : Value) (l : List Bs) (v' : Value) (w' : World) : Prop where
  own : OwS lo w' v' l
  fp : Fp (fun k => v.ownBlock = some k) w w'
  new : ∀ k, v'.ownBlock = some k → v.ownBlock = some k
set_option maxHeartbeats 1000000 in
theorem inOrder_c {lo : Nat} {w : World} {v : Value} {l : List Bs} (h : OwS lo w v l) (hn : l.length ≤ 1000000) :
    Calls Tryz.prog 26 #[v] w fun e w' => ∃ v', e = .returned v' ∧ ChRS lo w v (ordB l) v' w' := by
  rcases h.waysS with ⟨rfl, rfl⟩ | ⟨G, cap, rfl, hlo, hG, hc1, hc2⟩
  · have h1 := fun W => Tryz.slices_Sort_string_none none 0 W
    have h2 := fun W => Tryz.slices_Compact_string_empty none 0 W
    have H := Lib.hid (And.intro h1 h2)
    clear h1 h2 h hn
    go_enter Tryz.func26, Tryz.ntmps26
    go_wp2_with fail
    refine (H.out.1 _).mono ?_
    rintro e w1 ⟨rfl, rfl⟩
    go_wp2_with fail
    refine (H.out.2 _).mono ?_
    rintro e w1 ⟨rfl, rfl⟩
    go_wp2
    go_ret
    exact ⟨_, rfl, OwG.nil _ _, Fp.refl _ _, fun k hk => by simp [Value.ownBlock] at hk⟩
  · have ho : w.ownsRow lo TS 1 (.slice (some ⟨G, 0, none⟩) l.length cap) l.length (l.map encStr) := by have := h; unfold OwS OwG at this; rwa [rows_tx] at this
    obtain ⟨g, cap', e, _, _, _, _, _, hH⟩ := Lib.holds_of_ownsRow ho (by intro e; cases e)
    injection e with e1 _ e3
    injection e1 with e1
    injection e1 with e1
    subst e1 e3
    have hso := Tryz.slices_Sort_string G 0 cap l w hH hG (by omega)
    have hcm : ∀ n os, Calls Tryz.prog 50 #[.slice (some ⟨G, 0, none⟩) l.length cap] (Go.Sort.grow (Go.Sort.putRow encStr (Sort.ahead w n) G 0 (l.mergeSort fun x y => decide (x ≤ y)).toArray) os) fun e w' => ∃ v', e = .returned v' ∧ ChRS lo w (.slice (some ⟨G, 0, none⟩) l.length cap) (ordB l) v' w' := fun n os => by
      rcases ho.2 with ⟨h0, _⟩ | ⟨g', cap', cur, e0, hb, hg, hn1, hm, hs, ht⟩
      · cases h0
      · injection e0 with e1 _ e3
        injection e1 with e1
        injection e1 with e1
        subst e1 e3
        have hl : (l.mergeSort fun x y => decide (x ≤ y)).length = l.length := (List.mergeSort_perm _ _).length_eq
        have hown := ownsRow_sorted (n := n) (os := os) hl hb hg hn1 hm hs
        have hgr := grownBy_sorted (w := w) (g := G) (n := n) (os := os) (l.mergeSort fun x y => decide (x ≤ y)).toArray
        generalize hW : (Go.Sort.grow (Go.Sort.putRow encStr (Sort.ahead w n) G 0 (l.mergeSort fun x y => decide (x ≤ y)).toArray) os) = W at *
        obtain ⟨g, cap'', e, _, hGW, _, _, _, hH2⟩ := Lib.holds_of_ownsRow hown (by intro e; cases e)
        injection e with e1 _ e3
        injection e1 with e1
        injection e1 with e1
        subst e1 e3
        have hc := Tryz.slices_Compact_string G 0 cap (l.mergeSort fun x y => decide (x ≤ y)) W hH2 (by omega) (by omega)
        rw [hl, cmp_ord] at hc
        refine hc.mono ?_
        rintro e w' ⟨rfl, q, rfl⟩
        have hk : (ordB l).length ≤ l.length := by rw [← cmp_ord, ← hl]; exact Lib.compact_length_le _
        have hy : (ordB l ++ List.replicate (l.length - (ordB l).length) []).length = l.length := by simp; omega
        have hfin := Lib.ownsRow_putRow (q := q) hown hy hk
        have htk : (ordB l ++ List.replicate (l.length - (ordB l).length) []).take (ordB l).length = ordB l := List.take_left
        rw [htk] at hfin
        refine ⟨_, rfl, ?_, ?_, fun k hk => hk⟩
        · unfold OwS OwG; rw [rows_tx]; exact hfin
        · have f1 : Fp (fun k => (Value.slice (some ⟨G, 0, none⟩) l.length cap).ownBlock = some k) w W := (Fp.refl _ w).grown hgr (fun k hk => .inl (by injection hk with hk; rw [← hk]; rfl))
          refine f1.same ⟨rfl, rfl, rfl, by simp [Sort.ahead], fun k hk hS => ?_⟩
          have hne : G ≠ k := fun e => hS (by rw [← e]; rfl)
          simp [Go.Sort.putRow, Go.Sort.mapBlock, Sort.ahead, Array.getElem?_modify, hne]
    have HS := Lib.hid (And.intro hso hcm)
    clear hso hcm ho hH h hn hc1
    generalize l.length = n at *
    go_enter Tryz.func26, Tryz.ntmps26
    go_wp2_with fail
    refine HS.out.1.mono ?_
    rintro e w1 ⟨rfl, m, os, rfl⟩
    go_wp2_with fail
    refine (HS.out.2 m os).mono ?_
    rintro e w2 ⟨v', rfl, hR⟩
    have HR := Lib.hid hR
    clear hR
    go_wp2
    go_ret
    exact ⟨_, rfl, HR.out⟩

/-- Pieces. -/
structure Pc where
  op : Int
  kind : Int
  dir : Bs
  path : Bs
  data : Bs
  ver : Int
  own : Int
  turns : Bool
def pcC (x : Pc) : List Value := [.int .i64 x.op, .int .i64 x.kind, strV x.dir, strV x.path, strV x.data, .int .i64 x.ver, .int .i64 x.own, .bool x.turns]
theorem pcC_len (x : Pc) : (pcC x).length = 8 := rfl
structure PcAt (w : World) (g o : Nat) (x : Pc) : Prop where
  c0 : w.cell? ⟨g, o, none⟩ = some (.int .i64 x.op)
  c1 : w.cell? ⟨g, o + 1, none⟩ = some (.int .i64 x.kind)
  c2 : w.cell? ⟨g, o + 2, none⟩ = some (.string (B x.dir))
  c3 : w.cell? ⟨g, o + 3, none⟩ = some (.string (B x.path))
  c4 : w.cell? ⟨g, o + 4, none⟩ = some (.string (B x.data))
  c5 : w.cell? ⟨g, o + 5, none⟩ = some (.int .i64 x.ver)
  c6 : w.cell? ⟨g, o + 6, none⟩ = some (.int .i64 x.own)
  c7 : w.cell? ⟨g, o + 7, none⟩ = some (.bool x.turns)
theorem ElAt.pc {w : World} {g o : Nat} {x : Pc} (h : ElAt pcC w g o x) : PcAt w g o x :=
  ⟨h.get 0 _ rfl, h.get 1 _ rfl, h.get 2 _ rfl, h.get 3 _ rfl, h.get 4 _ rfl, h.get 5 _ rfl, h.get 6 _ rfl, h.get 7 _ rfl⟩
/-- Behind one text more. -/
structure ApS (lo : Nat) (w : World) (v : Value) (l : List Bs) (v' : Value) (w' : World) : Prop where
  own : OwS lo w' v' l
  fp : Fp (fun k => v.ownBlock = some k) w w'
theorem app_oneS (w : World) (lo : Nat) (v : Value) (l : List Bs) (s : Bs) (ty : TypeId) (hv : OwS lo w v l) (h6 : l.length ≤ 99999) (hlo : lo ≤ w.heap.size) :
    ∃ v' w', (Builtin.append_ #[TLS, TLS] ty #[v, .slice (some ⟨w.heap.size, 0, none⟩) 1 1]).run Tryz.prog (w.alloc (.cells #[.string (B s)] TS)) = .ok v' w' ∧ ApS lo w v (l ++ [s]) v' w' := by
  have hf : Fp Non w (w.alloc (.cells #[.string (B s)] TS)) := fp_alloc w _
  obtain ⟨v', w', hr, h1, h2, h3⟩ := app_ownS (w.alloc (.cells #[.string (B s)] TS)) lo v l [s] ty ⟨w.heap.size, 0, none⟩ 1 1 (hv.non hf) rfl (fun i hi => by
    have : i = 0 := by simpa using hi
    subst this
    rw [Addr.add_lit]
    rw [cell_of_row _ _ _ _ _ _ (heap_alloc_new w _)]; rfl) (by simp; omega) (Nat.le_trans hlo hf.size)
  exact ⟨v', w', hr, h1, hf.any.grown h2 (fun k hk => .inl hk)⟩
theorem take_map_succ (p : List Pc) (k : Nat) (h : k < p.length) : (p.map Pc.dir).take (k + 1) = (p.map Pc.dir).take k ++ [p[k].dir] := by
  rw [List.take_succ_eq_append_getElem (by simpa using h), List.getElem_map]
set_option maxHeartbeats 4000000 in
theorem Dirs_c (v : Value) (p : List Pc) (w : World) (hv : Sg pcC 8 w v p) (hn : p.length ≤ 90000) :
    Calls Tryz.prog 22 #[v] w fun e w' => ∃ v', e = .returned v' ∧ TxR w (ordB (p.map Pc.dir)) v' w' := by
  obtain ⟨ao, cap, rfl⟩ := hv.shape
  obtain ⟨n, hnn⟩ : ∃ n, n = p.length := ⟨_, rfl⟩
  have HX := Lib.hid (And.intro hnn hv)
  rw [← hnn]
  have hnb : n ≤ 90000 := by omega
  have H0 : Hid (OwS w.heap.size w (.slice none 0 0) ((p.map Pc.dir).take 0) ∧ Fp Non w w) := ⟨OwG.nil _ _, Fp.refl _ _⟩
  clear hv hn hnn
  go_enter Tryz.func22, Tryz.ntmps22
  go_wp2_with fail
  go_loopw [3, 8] (fun d i wr => ∃ k : Nat, k ≤ n ∧ i = .int .i64 k ∧ Hid (OwS w.heap.size wr d ((p.map Pc.dir).take k) ∧ Fp Non w wr)) (fun _ i _ => n - (RowKit.intOf i).toNat)
  case atStart => exact ⟨0, Nat.zero_le _, rfl, H0⟩
  case round =>
    clear H0
    obtain ⟨k, hk, rfl, hR⟩ := hrel
    rename_i wr _
    by_cases hlt : k < n
    · have hkl : k < p.length := by rw [← HX.out.1]; exact hlt
      obtain ⟨g, o, cap', e, hcell⟩ := HX.out.2.at (by omega)
      injection e with e1 e2 e3
      subst e1 e3
      have hnd := ((hcell k hkl).keep hR.out.2 (fun h => h)).pc
      have hst := take_map_succ p k hkl
      obtain ⟨x, hx⟩ : ∃ x, x = p[k] := ⟨_, rfl⟩
      rw [← hx] at hnd hst
      clear hx hcell
      obtain ⟨x0, x1, x2, x3, x4, x5, x6, x7⟩ := x
      have c0 := hnd.c0; have c1 := hnd.c1; have c2 := hnd.c2; have c3 := hnd.c3; have c4 := hnd.c4; have c5 := hnd.c5; have c6 := hnd.c6; have c7 := hnd.c7
      simp only at c0 c1 c2 c3 c4 c5 c6 c7 hst
      have hbx := heap_alloc_new wr (.cells #[.int .i64 x0, .int .i64 x1, .string (B x2), .string (B x3), .string (B x4), .int .i64 x5, .int .i64 x6, .bool x7] 47)
      have hfa := fp_alloc wr (.cells #[.int .i64 x0, .int .i64 x1, .string (B x2), .string (B x3), .string (B x4), .int .i64 x5, .int .i64 x6, .bool x7] 47)
      have hap := app_oneS (wr.alloc (.cells #[.int .i64 x0, .int .i64 x1, .string (B x2), .string (B x3), .string (B x4), .int .i64 x5, .int .i64 x6, .bool x7] 47)) w.heap.size u3 _ x2 TLS (hR.out.1.non hfa) (by rw [List.length_take, List.length_map]; omega) (Nat.le_trans hR.out.2.size hfa.size)
      rw [show (wr.alloc (.cells #[.int .i64 x0, .int .i64 x1, .string (B x2), .string (B x3), .string (B x4), .int .i64 x5, .int .i64 x6, .bool x7] 47)).heap.size = wr.heap.size + 1 from by simp] at hap
      have b2 : (wr.alloc (.cells #[.int .i64 x0, .int .i64 x1, .string (B x2), .string (B x3), .string (B x4), .int .i64 x5, .int .i64 x6, .bool x7] 47)).cell? ⟨wr.heap.size, 2, none⟩ = some (.string (B x2)) := by rw [cell_of_row _ _ _ _ _ _ hbx]; rfl
      have q3 : ((k : Int) < (n : Int)) = True := eq_true (by omega)
      have q4 : (k < n) = True := eq_true hlt
      have HA := Lib.hid hap
      have HL := Lib.hid (And.intro hlt (And.intro hst (And.intro hfa hR.out)))
      have hcl := hR.out.1.lt
      have HCL := Lib.hid hcl
      clear hnd hap hlt hkl hbx hfa hst hR hcl
      go_wp2_with (at_builtin; go_must (refine wpList_app rfl _ _ _ _ rfl _ _ rfl rfl _ HA.out ?_))
      intro v' w' hA
      have hM : Hid (OwS w.heap.size w' v' ((p.map Pc.dir).take (k + 1)) ∧ Fp Non w w') := ⟨by rw [HL.out.2.1]; exact hA.own, (HL.out.2.2.2.2.then HL.out.2.2.1).trans hA.fp (fun j hj => .inr (HCL.out j hj).1)⟩
      have hkn := HL.out.1
      clear hA HL HA
      go_wp2
      go_roundw
      case rel => exact ⟨k + 1, by omega, by go_num, hM⟩
      case measure => simp [RowKit.intOf]; omega
    · have hke : k = n := by omega
      subst hke
      have q3 : ((k : Int) < (k : Int)) = False := eq_false (by omega)
      have e : (p.map Pc.dir).take k = p.map Pc.dir := List.take_of_length_le (by rw [List.length_map, ← HX.out.1]; exact Nat.le_refl _)
      have hO := hR.out.1
      rw [e] at hO
      have hin := inOrder_c hO (by rw [List.length_map, ← HX.out.1]; omega)
      have hfr := hR.out.2
      have hol := hO.lt
      have HI := Lib.hid hin
      have HF := Lib.hid (And.intro hfr hol)
      clear hlt hk e hO hin hfr hol hR
      go_wp2_with fail
      refine HI.out.mono ?_
      rintro e w2 ⟨v2, rfl, hC⟩
      have HR : Hid (TxR w (ordB (p.map Pc.dir)) v2 w2) := ⟨hC.own, HF.out.1.trans hC.fp (fun j hj => .inr (HF.out.2 j hj).1)⟩
      clear hC
      go_wp2
      go_ret
      exact ⟨_, rfl, HR.out⟩
end Go.Proofs.YtenaggleepoclaaGreat
