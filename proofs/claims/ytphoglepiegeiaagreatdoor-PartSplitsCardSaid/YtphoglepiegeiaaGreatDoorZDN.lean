/- A text of this proof. -/
import Derived.Deep.RegionHeld
import Derived.Laws.EntriesVeiled
import Derived.StillTailTactics
import Derived.Test.YtphoglepiegeiaaGreatDoorZDD
import Derived.Test.YtphoglepiegeiaaGreatDoorZDG
import Derived.Test.YtphoglepiegeiaaGreatDoorZDI
import Derived.Test.YtphoglepiegeiaaGreatDoorZDL
import Derived.Test.YtphoglepiegeiaaGreatDoorZDM
set_option linter.unusedSimpArgs false
set_option linter.unusedVariables false
namespace Go.Proofs.YtphoglepiegeiaaGreatDoor
set_option maxRecDepth 20000
open Go.RowKit Pm
abbrev TS : TypeId := 87
structure Sw (lo b : Nat) (vn vt : Value) (s : St) (w : World) : Prop where
 blk : w.heap[b]? = some (.cells #[vn, vt] TS (0, 0))
 low : lo ≤ b
 own : Ow lo w vn s.nodes
 ownT : OwT lo w vt s.turns
 neN : vn.ownBlock ≠ some b
 neT : vt.ownBlock ≠ some b
 apart : ∀ k, vn.ownBlock = some k → vt.ownBlock ≠ some k
section
variable {lo b : Nat} {vn vt : Value} {s : St} {w w' : World}
theorem Sw.non (h : Sw lo b vn vt s w) (f : Fp Non w w') : Sw lo b vn vt s w' := ⟨f.heap h.blk id, h.low, h.own.non f, h.ownT.non f, h.neN, h.neT, h.apart⟩
theorem Sw.c0 (h : Sw lo b vn vt s w) : w.cell? ⟨b, 0, none⟩ = some vn := by rw [cell_of_row _ _ _ _ _ _ h.blk]; rfl
theorem Sw.c1 (h : Sw lo b vn vt s w) : w.cell? ⟨b, 1, none⟩ = some vt := by rw [cell_of_row _ _ _ _ _ _ h.blk]; rfl
theorem Sw.fz (h : Sw lo b vn vt s w) (j : Nat) : w.frozen? ⟨b, j, none⟩ = false := by simp [World.frozen?, h.blk]
end
set_option maxHeartbeats 1000000 in
theorem turnPlace_c {lo b : Nat} {vn vt : Value} {s : St} {w : World} (h : Sw lo b vn vt s w) (p : Bs) (ha : AscT s.turns) (hn : s.turns.length ≤ 1000000) :
  Calls Tryz.prog 165 #[.pointer (some ⟨b, 0, none⟩), .string (B p)] w fun e w' => e = .returned (.tuple #[.int .i64 (placeT s.turns p), .bool (findT s.turns p).isSome]) ∧ Fp Non w w' := by
 have hs := SearchT_c vt s.turns p w h.ownT.ns ha hn
 have c1 := h.c1
 obtain ⟨ao, cap, rfl⟩ := h.ownT.ns.shape
 generalize s.turns.length = n at *
 have HS := Lib.hid hs
 clear hs h hn ha
 go_enter Tryz.func165, Tryz.ntmps165
 go_wp2_with fail
 refine HS.out.mono ?_
 rintro e w1 ⟨rfl, hf⟩
 have HF := Lib.hid hf
 clear hf
 go_wp2
 go_ret2
 exact ⟨rfl, HF.out⟩
set_option maxHeartbeats 1000000 in
theorem turn_c {lo b : Nat} {vn vt : Value} {s : St} {w : World} (h : Sw lo b vn vt s w) (p : Bs) (ha : AscT s.turns) (hn : s.turns.length ≤ 1000000) :
  Calls Tryz.prog 127 #[.pointer (some ⟨b, 0, none⟩), .string (B p)] w fun e w' => e = .returned (.int .i64 (turnOf s.turns p)) ∧ Fp Non w w' := by
 have hs := turnPlace_c h p ha hn
 have c1 := h.c1
 have hfp := findT_place ha p
 obtain ⟨k, hk⟩ : ∃ k, k = placeT s.turns p := ⟨_, rfl⟩
 rw [← hk] at hs
 cases hf : findT s.turns p with
 | none =>
  have e : turnOf s.turns p = 0 := by unfold turnOf; rw [hf]; rfl
  rw [e]
  rw [hf] at hs
  simp only [Option.isSome_none] at hs
  have HS := Lib.hid hs
  obtain ⟨ao, cap, rfl⟩ := h.ownT.ns.shape
  clear hs h hn ha hfp hk hf e
  go_enter Tryz.func127, Tryz.ntmps127
  go_wp2_with fail
  refine HS.out.mono ?_
  rintro e w1 ⟨rfl, hf⟩
  have HF := Lib.hid hf
  clear hf
  go_wp2
  go_ret
  exact ⟨rfl, HF.out⟩
 | some t => ?_
 have e : turnOf s.turns p = t.next := by unfold turnOf; rw [hf]; rfl
 rw [e]
 rw [hf] at hs hfp
 simp only [Option.isSome_some] at hs
 have hkl : k < s.turns.length := by
  apply Decidable.byContradiction; intro c
  rw [dif_neg (by rw [← hk]; exact c)] at hfp; cases hfp
 have ht : s.turns[k] = t := by
  subst hk
  rw [dif_pos hkl] at hfp
  split at hfp
  ·exact (Option.some.inj hfp).symm
  cases hfp
 have HS := Lib.hid hs
 obtain ⟨g, o, cap, rfl, _, _, _, hcell⟩ := h.ownT.ns.at (by omega)
 have hnd := hcell k hkl
 rw [ht] at hnd
 obtain ⟨n, hnn⟩ : ∃ n, n = s.turns.length := ⟨_, rfl⟩
 rw [← hnn] at c1 hn
 have q3 : ((k : Int) < (n : Int)) = True := eq_true (by omega)
 have q4 : (k < n) = True := eq_true (by omega)
 have HC := Lib.hid (And.intro c1 hnd)
 clear hs h ha hfp hk hf e hcell hkl ht hnd hnn c1
 go_enter Tryz.func127, Tryz.ntmps127
 go_wp2_with fail
 refine HS.out.mono ?_
 rintro e w1 ⟨rfl, hf⟩
 have c1 := hf.cell HC.out.1 id
 have hnd := HC.out.2.keep hf id
 have d0 := hnd.c0; have d1 := hnd.c1
 have HF := Lib.hid hf
 clear hf hnd
 go_wp2
 go_ret
 exact ⟨rfl, HF.out⟩
end Go.Proofs.YtphoglepiegeiaaGreatDoor
namespace Go.Proofs.YtphoglepiegeiaaGreatDoor
set_option maxRecDepth 20000
open Go.RowKit Pm
set_option maxHeartbeats 2000000 in
theorem node_none {lo b : Nat} {vn vt : Value} {s : St} {w : World} (h : Sw lo b vn vt s w) (x : Pt) (ha : Asc s.nodes) (hn : s.nodes.length ≤ 1000000) (hf : find s.nodes x.path = none) :
  Calls Tryz.prog 123 #[.pointer (some ⟨b, 0, none⟩), ptV x] w fun e w' => e = .returned (.tuple #[.pointer none, .int .i64 62]) ∧ Fp Non w w' := by
 obtain ⟨k, d, p, da, v, o, t⟩ := x
 simp only at hf
 obtain ⟨q, hq⟩ : ∃ q, q = place s.nodes p := ⟨_, rfl⟩
 have hs := fun w' (f : Fp Non w w') => placeP_c vn s.nodes p w' (h.own.ns.non f) ha hn
 rw [hf, ← hq] at hs
 simp only [Option.isSome_none] at hs
 have HS := Lib.hid hs
 have HA := Lib.hid (fun o => fp_alloc w o)
 have hc0 := h.c0
 obtain ⟨ao, cap, rfl⟩ := h.own.ns.shape
 have HD := Lib.hid (((Fp.refl Non w).alloc (Obj.cells #[.int .i64 k, .string (B d), .string (B p), .string (B da), .int .i64 v, .int .i64 o, .bool t] TP)).drew)
 have HS0 := Lib.hid (And.intro (HD.out.cell hc0 id) ((Fp.refl Non _).drew.cell (boxP7 (heap_alloc_new w (Obj.cells #[.int .i64 k, .string (B d), .string (B p), .string (B da), .int .i64 v, .int .i64 o, .bool t] TP))).2.2.1 id))
 unfold ptV strV
 generalize s.nodes.length = n at *
 clear hs h hn ha hf hq hc0
 go_enter Tryz.func123, Tryz.ntmps123
 go_wp2_with fail
 refine wp_region_held_drew (S := (fun w' => w'.cell? ⟨b, 0, none⟩ = some (.slice ao n cap) ∧ w'.cell? ⟨w.heap.size, 2, none⟩ = some (.string (B p)))) (by kernel_rfl) ?_ (fun hH => ?_)
 ·exact HS0.out
 refine tk 0 hH ?_
 refine tk 1 hH ?_
 refine tk 2 hH ?_
 refine tk 3 hH ?_
 refine tk 4 hH ?_
 refine tk 5 hH ?_
 refine rY 6 fun K hK => ?_
 go_simp
 go_at_call 107
 refine (HS.out _ HD.out).mono ?_
 rintro e w1 ⟨rfl, hf⟩
 have HS1 := Lib.hid (And.intro (hf.cell HS0.out.1 id) (hf.cell HS0.out.2 id))
 have HF := Lib.hid (HD.out.then hf)
 clear hf
 go_wp2_with fail
 refine hK.out _ _ HS1.out (fun hH => ?_)
 clear hK K
 try simp only [zz]
 refine tk 7 hH ?_
 refine tk 8 hH ?_
 refine tk 9 hH ?_
 refine tk 10 hH ?_
 refine tk 11 hH ?_
 refine dn ?_
 go_wp2
 go_ret2
 exact ⟨rfl, HF.out⟩
set_option maxHeartbeats 2000000 in
theorem node_some {lo b : Nat} {vn vt : Value} {s : St} {w : World} (h : Sw lo b vn vt s w) (x : Pt) (ha : Asc s.nodes) (hn : s.nodes.length ≤ 1000000) {y : Nd} (hf : find s.nodes x.path = some y) :
  Calls Tryz.prog 123 #[.pointer (some ⟨b, 0, none⟩), ptV x] w fun e w' => ∃ G, vn.ownBlock = some G ∧ NdAt w G (place s.nodes x.path * 5) y ∧ e = .returned (.tuple #[.pointer (some ⟨G, place s.nodes x.path * 5, none⟩), .int .i64 0]) ∧ Fp Non w w' := by
 obtain ⟨k, d, p, da, v, o, t⟩ := x
 simp only at hf ⊢
 have hfp := find_place ha p
 rw [hf] at hfp
 obtain ⟨q, hq⟩ : ∃ q, q = place s.nodes p := ⟨_, rfl⟩
 rw [← hq]
 have hql : q < s.nodes.length := by
  apply Decidable.byContradiction; intro c
  rw [dif_neg (by rw [← hq]; exact c)] at hfp; cases hfp
 have hy : s.nodes[q] = y := by
  subst hq
  rw [dif_pos hql] at hfp
  split at hfp
  ·exact (Option.some.inj hfp).symm
  cases hfp
 have hs := fun w' (f : Fp Non w w') => placeP_c vn s.nodes p w' (h.own.ns.non f) ha hn
 rw [hf, ← hq] at hs
 simp only [Option.isSome_some] at hs
 have HS := Lib.hid hs
 have HA := Lib.hid (fun o => fp_alloc w o)
 have hc := h.c0
 rcases h.own.ways with ⟨_, e⟩ | ⟨G, cap, rfl, h1, _⟩
 ·rw [e] at hql; simp at hql
 have hnd := h1.nd q hql
 rw [hy, Nat.zero_add] at hnd
 obtain ⟨n, hnn⟩ : ∃ n, n = s.nodes.length := ⟨_, rfl⟩
 rw [← hnn] at hc hn hql HS ⊢
 have q3 : ((q : Int) < (n : Int)) = True := eq_true (by omega)
 have q4 : (q < n) = True := eq_true (by omega)
 have HC := Lib.hid (And.intro hc hnd)
 have HD := Lib.hid (((Fp.refl Non w).alloc (Obj.cells #[.int .i64 k, .string (B d), .string (B p), .string (B da), .int .i64 v, .int .i64 o, .bool t] TP)).drew)
 have HS0 := Lib.hid (And.intro (HD.out.cell hc id) ((Fp.refl Non _).drew.cell (boxP7 (heap_alloc_new w (Obj.cells #[.int .i64 k, .string (B d), .string (B p), .string (B da), .int .i64 v, .int .i64 o, .bool t] TP))).2.2.1 id))
 unfold ptV strV
 clear hs h ha hf hfp hq hql hy h1 hnd hnn hc
 go_enter Tryz.func123, Tryz.ntmps123
 go_wp2_with fail
 refine wp_region_held_drew (S := (fun w' => w'.cell? ⟨b, 0, none⟩ = some (.slice (some ⟨G, 0, none⟩) n cap) ∧ w'.cell? ⟨w.heap.size, 2, none⟩ = some (.string (B p)))) (by kernel_rfl) ?_ (fun hH => ?_)
 ·exact HS0.out
 refine tk 0 hH ?_
 refine tk 1 hH ?_
 refine tk 2 hH ?_
 refine tk 3 hH ?_
 refine tk 4 hH ?_
 refine tk 5 hH ?_
 refine rY 6 fun K hK => ?_
 go_simp
 go_at_call 107
 refine (HS.out _ HD.out).mono ?_
 rintro e w1 ⟨rfl, hf⟩
 have HS1 := Lib.hid (And.intro (hf.cell HS0.out.1 id) (hf.cell HS0.out.2 id))
 have HF := Lib.hid (HD.out.then hf)
 clear hf
 go_wp2_with fail
 refine hK.out _ _ HS1.out (fun hH => ?_)
 clear hK K
 try simp only [zz]
 refine tk 7 hH ?_
 refine tk 8 hH ?_
 refine tk 9 hH ?_
 refine tk 10 hH ?_
 refine tk 11 hH ?_
 refine dn ?_
 have c0 := HS1.out.1
 go_wp2
 go_ret2
 exact ⟨G, rfl, HC.out.2, rfl, HF.out⟩
abbrev TSs : TypeId := 32
structure AnR (lo : Nat) (w : World) (ps : List Bs) (v' : Value) (w' : World) : Prop where
 own : Own lo w' v' ps
 fp : Fp (fun k => lo ≤ k) w w'
theorem app_name (w : World) (lo : Nat) (v : Value) (ps : List Bs) (x : Bs) (ty : TypeId) (ho : Own lo w v ps) (hn : ps.length ≤ 100000) (hlo : lo ≤ w.heap.size) :
  ∃ v' w', (Builtin.append_ #[TSs, TSs] ty #[v, .slice (some ⟨w.heap.size, 0, none⟩) 1 1]).run Tryz.prog (w.alloc (.cells #[.string (B x)] 9)) = .ok v' w' ∧ AnR lo w (ps ++ [x]) v' w' := by
 obtain ⟨i0, hi, hz0, hz1, hz2⟩ := info_parts Tryz.infoS
 have hc : (w.alloc (.cells #[.string (B x)] 9)).cell? ⟨w.heap.size, 0, none⟩ = some (strV x) := by rw [cell_of_row _ _ _ _ _ _ (heap_alloc_new w _)]; rfl
 obtain ⟨v', w', hr, h4, h5, h7, _⟩ := run_append_own_at (P := Tryz.prog) (w.alloc (.cells #[.string (B x)] 9)) lo TSs ty 9 i0 (.string ⟨#[]⟩) 1 16 Tryz.underlying32 hi hz0 hz1 hz2 rfl (by decide) v ps.length (ps.map strV) (ho.1.alloc _)
  ⟨w.heap.size, 0, none⟩ 1 1 [strV x] rfl (fun j u hu => by
   cases j with
   | zero => rw [Addr.add_lit, ← Option.some.inj hu]; exact hc
   | succ j => simp at hu) (one_c2 x) (by unfold maxLen; omega) (by omega) (by simp; omega)
 refine ⟨v', w', hr, ⟨⟨by simpa using h4, fun e => by simp at e⟩, ?_⟩⟩
 refine ((Fp.refl (fun k => lo ≤ k) w).alloc _).grown h5 (fun k hk => .inl ?_)
 exact (ho.1.lt k hk).1
theorem Own.grown' {b0 : Nat} {w w' : World} {v : Value} {ps : List Bs} (h : Own b0 w v ps) (g : Fp Non w w') : Own b0 w' v ps := ⟨g.owns h.1 (fun _ _ h => h), h.2⟩
attribute [local irreducible] wpStill
abbrev TR : TypeId := 34
structure MeR (lo b G : Nat) (l' : List Nd) (r : Res) (w : World) (e : Ending) (w' : World) : Prop where
 ex : ∃ nv G' cap', e = .returned (.agg #[.int .i64 r.err, strV r.path, strV r.data, .int .i64 r.ver, nv]) ∧ Own w.heap.size w' nv r.names ∧ Tn lo b G' cap' l' w' ∧ (G' = G ∨ w.heap.size ≤ G')
 fp : Fp (ownT b G) w w'
theorem MeR.still {lo b G cap : Nat} {l : List Nd} {w w' : World} {r : Res} {nv : Value} (h : Tn lo b G cap l w) (f : Fp Non w w') (ho : Own w.heap.size w' nv r.names) :
  MeR lo b G l r w (.returned (.agg #[.int .i64 r.err, strV r.path, strV r.data, .int .i64 r.ver, nv])) w' :=
 ⟨⟨nv, G, cap, rfl, ho, h.non f, .inl rfl⟩, f.any⟩
theorem Own.low {b0 b1 : Nat} {w : World} {v : Value} {ps : List Bs} (h : Own b1 w v ps) (hb : b0 ≤ b1) : Own b0 w v ps := by
 refine ⟨⟨h.1.1, ?_⟩, h.2⟩
 rcases h.1.2 with hn | ⟨g, cap, cur, e, hg, rest⟩
 ·exact .inl hn
 exact .inr ⟨g, cap, cur, e, Nat.le_trans hb hg, rest⟩
theorem own5 {b0 : Nat} {w : World} {nv : Value} {ps : List Bs} (h : Own b0 w nv ps) {b : Nat} (hb : nv.ownBlock = some b → False) (v0 v1 v2 v3 v4 : Value) :
  Own b0 (((((w.setCell ⟨b, 0, none⟩ v0).setCell ⟨b, 1, none⟩ v1).setCell ⟨b, 2, none⟩ v2).setCell ⟨b, 3, none⟩ v3).setCell ⟨b, 4, none⟩ v4) nv ps :=
 ⟨(fp5 (S := fun k => k = b) (Fp.refl _ w) (.inl rfl) v0 v1 v2 v3 v4).owns h.1 (fun k hk e => hb (by rw [hk, e])), h.2⟩
end Go.Proofs.YtphoglepiegeiaaGreatDoor
namespace Go.Proofs.YtphoglepiegeiaaGreatDoor
set_option maxRecDepth 20000
open Go.RowKit Pm
theorem rows_set2 (l : List Nd) (i : Nat) (hi : i < l.length) (d : Bs) (v : Int) (rest : List Value) : (((rows l ++ rest).set (i * 5 + 1) (strV d)).set (i * 5 + 2) (.int .i64 v)) = rows (l.set i { l[i] with data := d, ver := v }) ++ rest := by
 induction l generalizing i with
 | nil => simp at hi
 | cons a l ih =>
  cases i with
  | zero => rw [List.set_cons_zero, rows_cons, rows_cons]; simp [ndC]
  | succ i => ?_
  rw [List.set_cons_succ, rows_cons, rows_cons, List.append_assoc, List.append_assoc]
  simp only [List.getElem_cons_succ]
  rw [← ih i (by simpa using hi)]
  simp only [show (i + 1) * 5 = 5 + i * 5 from by omega, show ∀ j, 5 + i * 5 + j = 5 + (i * 5 + j) from fun j => by omega]
  have e : ∀ (j : Nat) (v : Value) (m : List Value), (ndC a ++ m).set (5 + j) v = ndC a ++ m.set j v := fun j v m => by
   rw [List.set_append_right _ _ (by rw [ndC_len]; omega), ndC_len, Nat.add_sub_cancel_left]
  rw [e, e]
theorem Nr.put2 {w : World} {G cap : Nat} {l : List Nd} (h : Nr w G cap l) (i : Nat) (hi : i < l.length) (d : Bs) (v : Int) :
  Nr ((w.setCell ⟨G, i * 5 + 1, none⟩ (strV d)).setCell ⟨G, i * 5 + 2, none⟩ (.int .i64 v)) G cap (l.set i { l[i] with data := d, ver := v }) := by
 obtain ⟨rest, hg, hrl⟩ := h.ex
 have h1 := heap_setCell_same w G (i * 5 + 1) _ TN (strV d) hg
 have h2 := heap_setCell_same _ G (i * 5 + 2) _ TN (.int .i64 v) h1
 refine ⟨⟨rest, ?_, by rw [List.length_set]; exact hrl⟩, by rw [List.length_set]; exact h.room, h.most⟩
 rw [h2, ← rows_set2 l i hi d v rest]
 simp [List.setIfInBounds_toArray]
theorem MeR.of {lo b G G' cap' : Nat} {l' : List Nd} {w w' : World} {r : Res} {nv : Value} (ht : Tn lo b G' cap' l' w') (hg : G' = G ∨ w.heap.size ≤ G') (f : Fp (ownT b G) w w') (ho : Own w.heap.size w' nv r.names) :
  MeR lo b G l' r w (.returned (.agg #[.int .i64 r.err, strV r.path, strV r.data, .int .i64 r.ver, nv])) w' := ⟨⟨nv, G', cap', rfl, ho, ht, hg⟩, f⟩
theorem kids_any (l : List Nd) (p : Bs) : l.any (fun n => parent n.path == some p) = false ↔ kids l p = [] := by
 unfold kids
 rw [List.any_eq_false, List.filter_eq_nil_iff]
theorem rows_turn (l : List Nd) (i : Nat) (hi : i < l.length) (v : Int) (rest : List Value) : ((rows l ++ rest).set (i * 5 + 3) (.int .i64 v)) = rows (l.set i { l[i] with turn := v }) ++ rest := by
 induction l generalizing i with
 | nil => simp at hi
 | cons a l ih =>
  cases i with
  | zero => rw [List.set_cons_zero, rows_cons, rows_cons]; simp [ndC]
  | succ i => ?_
  rw [List.set_cons_succ, rows_cons, rows_cons, List.append_assoc, List.append_assoc]
  simp only [List.getElem_cons_succ]
  rw [← ih i (by simpa using hi)]
  simp only [show (i + 1) * 5 = 5 + i * 5 from by omega, show ∀ j, 5 + i * 5 + j = 5 + (i * 5 + j) from fun j => by omega]
  rw [List.set_append_right _ _ (by rw [ndC_len]; omega), ndC_len, Nat.add_sub_cancel_left]
theorem Nr.turn {w : World} {G cap : Nat} {l : List Nd} (h : Nr w G cap l) (i : Nat) (hi : i < l.length) (v : Int) :
  Nr (w.setCell ⟨G, i * 5 + 3, none⟩ (.int .i64 v)) G cap (l.set i { l[i] with turn := v }) := by
 obtain ⟨rest, hg, hrl⟩ := h.ex
 have h1 := heap_setCell_same w G (i * 5 + 3) _ TN (.int .i64 v) hg
 refine ⟨⟨rest, ?_, by rw [List.length_set]; exact hrl⟩, by rw [List.length_set]; exact h.room, h.most⟩
 rw [h1, ← rows_turn l i hi v rest]
 simp [List.setIfInBounds_toArray]
theorem numbered_len {p q : Bs} {t : Int} (h : numbered p t = some q) : q.length ≤ 12 := by
 unfold numbered at h; split at h
 ·rename_i k
  rw [← Option.some.inj h]; exact (isPart_len k.2.2).2
 cases h
def ownS (b : Nat) (vn vt : Value) : Nat → Prop := fun k => k = b ∨ vn.ownBlock = some k ∨ vt.ownBlock = some k
theorem split_len {p : Bs} (h : (split p).isSome = true) : p.length ≤ 100 := by
 obtain ⟨ps, hps⟩ := Option.isSome_iff_exists.1 h
 obtain ⟨hP, e⟩ := (split_iff _ _).1 hps
 have := joinP_len hP
 rw [e] at this; exact this
theorem StR.sp {s : St} (h : StR s) : Sp s.nodes := fun n hn => by
 have := split_len ((sfit_iff n).1 (h.fit n hn)).1; omega
theorem Pd.sub {S T : Nat → Prop} {wc : World} {f : Value} {q : Nd → Bool} (h : Pd S wc f q) (k : ∀ i, T i → S i) : Pd T wc f q := by
 obtain ⟨kf, fi, cap, e, h1, h2⟩ := h.ex
 exact ⟨kf, fi, cap, e, h1, fun n w1 hn hf => h2 n w1 hn (hf.mono k)⟩
set_option maxHeartbeats 2000000 in
theorem DeleteFunc_own {lo : Nat} {w : World} {v f : Value} {l : List Nd} {q : Nd → Bool} (h : Ow lo w v l) (hs : Sp l) (hq : Pd (fun k => v.ownBlock = some k) w f q) (hl : l.length ≤ 4000) :
  Calls Tryz.prog 129 #[v, f] w fun e w' => ∃ v', e = .returned v' ∧ ChR lo w v (l.filter (fun n => !q n)) v' w' := by
 rcases h.ways with ⟨rfl, rfl⟩ | ⟨G, cap, rfl, h1, h2⟩
 ·have HI := Lib.hid (IndexFunc_c (.slice none 0 0) f [] q w (Ns.nil w) hs hq.non (by simp))
  obtain ⟨kf, fi, fc, rfl, hen, hcall⟩ := hq.ex
  clear hq hcall h hs hl
  go_enter Tryz.func129, Tryz.ntmps129
  go_wp2_with fail
  refine HI.out.mono ?_
  rintro e w1 ⟨⟨z, rfl, hz⟩, hf1⟩
  rcases hz with ⟨rfl, hz⟩ | ⟨i, rfl, hil, hqi, hz⟩
  ·have HF := Lib.hid hf1
   clear hf1 hz
   go_wp2
   go_ret
   exact ⟨_, rfl, Ow.nil _ _, HF.out.any, fun k hk => .inl hk⟩
  simp at hil
 refine (DeleteFunc_c h1 hs (hq.sub (fun i hi => by rw [hi]; rfl)) hl).mono ?_
 rintro e w' ⟨v', rfl, hR⟩
 obtain rfl := hR.v
 exact ⟨_, rfl, Ow.row hR.row h2, hR.fp.mono (fun k hk => by rw [hk]; rfl), fun k hk => .inl hk⟩
set_option maxHeartbeats 8000000 in
theorem lastParts_c {lo b : Nat} {vn vt : Value} {s : St} {w : World} {f : Value} {q : Nd → Bool} (h : Sw lo b vn vt s w) (hs : Sp s.nodes) (hq : Pd Non w f q) (hl : s.nodes.length ≤ 4000) :
  Calls Tryz.prog 133 #[.pointer (some ⟨b, 0, none⟩), f] w fun e w' => ∃ v', e = .returned v' ∧ Own w.heap.size w' v' ((s.nodes.filter q).map (fun n => last n.path)) ∧ Fp Non w w' := by
 have c0 := h.c0
 have hns := h.own.ns
 obtain ⟨n, hn⟩ : ∃ n, n = s.nodes.length := ⟨_, rfl⟩
 obtain ⟨kf, fi, fc, rfl, hen, hcall⟩ := hq.ex
 obtain ⟨vao, vcp, rfl⟩ := hns.shape
 rw [← hn] at c0
 have HX := Lib.hid (And.intro hn (And.intro hs (And.intro hcall hns)))
 have hn6 : n ≤ 4000 := by omega
 have H0 : Hid (Own w.heap.size w (.slice none 0 0) (((s.nodes.take 0).filter q).map (fun n => last n.path)) ∧ Fp Non w w) := ⟨by rw [List.take_zero]; exact Own.nil _ _, Fp.refl _ _⟩
 clear hq hcall h hs hn hl hns
 go_enter Tryz.func133, Tryz.ntmps133
 go_wp2_with fail
 go_loopw [5, 13] (fun v i wr => ∃ k : Nat, k ≤ n ∧ i = .int .i64 k ∧ Hid (Own w.heap.size wr v (((s.nodes.take k).filter q).map (fun n => last n.path)) ∧ Fp Non w wr)) (fun _ i _ => n - (RowKit.intOf i).toNat)
 case atStart => exact ⟨0, Nat.zero_le _, rfl, H0⟩
 clear H0
 obtain ⟨k, hk, rfl, hR⟩ := hrel
 rename_i wr _
 by_cases hlt : k < n
 ·have hkl : k < s.nodes.length := by rw [← HX.out.1]; exact hlt
  obtain ⟨g, og, cap', e9, _, _, _, hcell⟩ := HX.out.2.2.2.at (by omega)
  injection e9 with e1 e2 e3
  subst e1 e3
  have hnd := (hcell k hkl).keep hR.out.2 id
  clear hcell
  have hstep := take_step s.nodes k hkl q
  have hcc := fun w1 hf => HX.out.2.2.1 s.nodes[k] w1 (HX.out.2.1 _ (List.getElem_mem hkl)) hf
  have hsp := HX.out.2.1 _ (List.getElem_mem hkl)
  obtain ⟨b, hb⟩ : ∃ b, q s.nodes[k] = b := ⟨_, rfl⟩
  rw [hb] at hcc hstep
  clear hb
  generalize s.nodes[k] = x at *
  have hbx := NdAt.box wr x
  have hla := fun w => Last_g x.path w (sz_of hsp (by omega))
  have c0 := hnd.c0; have c1 := hnd.c1; have c2 := hnd.c2; have c3 := hnd.c3; have c4 := hnd.c4
  unfold strV at c0 c1
  unfold ndV strV at hcc
  have q3 : ((k : Int) < (n : Int)) = True := eq_true (by omega)
  have q4 : (k < n) = True := eq_true hlt
  have HCC := Lib.hid hcc
  have HLA := Lib.hid hla
  have HB := Lib.hid (And.intro hstep hbx)
  have HL := Lib.hid hlt
  clear hnd hcc hstep hbx hkl hlt hla hsp
  go_wp2_with fail
  rw [hen _ _]
  go_wp2_with fail
  refine (HCC.out _ (hR.out.2.trans ((Fp.refl Non wr).alloc _) (fun _ h => h.elim))).mono ?_
  rintro e w2 ⟨rfl, hf2⟩
  have hf2' : Fp Non wr w2 := ((Fp.refl Non wr).alloc _).then hf2
  have hbx2 := (HB.out.2.keep hf2 id).five
  have hown2 : Own w.heap.size w2 _ _ := hR.out.1.grown' hf2'
  cases b with
  | false =>
   have hM : Hid (Own w.heap.size w2 _ (((s.nodes.take (k + 1)).filter q).map (fun n => last n.path)) ∧ Fp Non w w2) := ⟨by rw [HB.out.1]; simpa using hown2, hR.out.2.then hf2'⟩
   have hj1 := HL.out
   clear hf2 hbx2 hown2 hf2'
   go_wp2
   go_roundw
   case rel => exact ⟨k + 1, by omega, by go_num, hM⟩
   case measure => simp [RowKit.intOf]; omega
  | true => ?_
  obtain ⟨b0, _, _, _, _⟩ := hbx2
  have HO2 := Lib.hid (And.intro hown2 (And.intro (hR.out.2.then hf2') hf2'))
  clear hf2 hown2 hf2'
  go_wp2_with fail
  refine (HLA.out _).mono ?_
  rintro e w3 ⟨rfl, g3⟩
  have hown3 : Own w.heap.size w3 _ _ := HO2.out.1.grown' g3.fp
  have hfp3 : Fp Non w w3 := HO2.out.2.1.then g3.fp
  obtain ⟨ps, hps⟩ : ∃ ps, ps = ((s.nodes.take k).filter q).map (fun n => last n.path) := ⟨_, rfl⟩
  rw [← hps] at hown3
  have hpl : ps.length ≤ 4000 := by rw [hps, List.length_map]; exact Nat.le_trans (List.length_filter_le _ _) (by rw [List.length_take]; omega)
  have hap := app_name w3 w.heap.size _ ps (last x.path) TSs hown3 (by omega) hfp3.size
  obtain ⟨vao, vcap, rfl⟩ := hown3.shape
  have HPS := Lib.hid hps
  have HAP := Lib.hid hap
  have HF3 := Lib.hid hfp3
  clear g3 hown3 hfp3 hap hps hpl
  go_wp2_with (at_builtin; go_must (refine wpList_app rfl _ _ _ _ rfl _ _ rfl rfl _ HAP.out ?_))
  intro v4 w4 hR4
  have hM : Hid (Own w.heap.size w4 v4 (((s.nodes.take (k + 1)).filter q).map (fun n => last n.path)) ∧ Fp Non w w4) := ⟨by rw [HB.out.1]; have := hR4.own; rw [HPS.out] at this; simpa using this, HF3.out.trans hR4.fp (fun k hk => .inr hk)⟩
  have hj1 := HL.out
  clear hR4
  go_wp2
  go_roundw
  case rel => exact ⟨k + 1, by omega, by go_num, hM⟩
  case measure => simp [RowKit.intOf]; omega
 have hke : k = n := by omega
 subst hke
 have q3 : ((k : Int) < (k : Int)) = False := eq_false (by omega)
 have hfin := hR.out.1
 rw [List.take_of_length_le (by rw [← HX.out.1]; exact Nat.le_refl _)] at hfin
 have HF := Lib.hid hfin
 clear hlt hk hfin
 go_wp2
 go_ret
 exact ⟨_, rfl, HF.out, hR.out.2⟩
theorem node_at {lo b : Nat} {vn vt : Value} {s : St} {w : World} (h : Sw lo b vn vt s w) (ha : Asc s.nodes) {p : Bs} {y : Nd} (hf : find s.nodes p = some y) : ∃ G, vn.ownBlock = some G ∧ NdAt w G (place s.nodes p * 5) y := by
 obtain ⟨hk, e⟩ := find_at ha hf
 rcases h.own.ways with ⟨_, e2⟩ | ⟨G, cap, rfl, h1, _⟩
 ·rw [e2] at hk; simp at hk
 have := h1.nd _ hk
 rw [e, Nat.zero_add] at this
 exact ⟨G, rfl, this⟩
set_option maxHeartbeats 4000000 in
theorem versioned_none {lo b : Nat} {vn vt : Value} {s : St} {w : World} (h : Sw lo b vn vt s w) (x : Pt) (ha : Asc s.nodes) (hn : s.nodes.length ≤ 1000000) (hf : find s.nodes x.path = none) :
  Calls Tryz.prog 128 #[.pointer (some ⟨b, 0, none⟩), ptV x] w fun e w' => e = .returned (.tuple #[.pointer none, .int .i64 62]) ∧ Fp Non w w' := by
 obtain ⟨k, d, p, da, v, o, t⟩ := x
 have HS := Lib.hid (fun w' (f : Fp Non w w') => node_none (h.non f) ⟨k, d, p, da, v, o, t⟩ ha hn hf)
 have HA := Lib.hid (fun o => fp_alloc w o)
 unfold ptV strV
 unfold ptV strV at HS
 clear h hn ha hf
 go_enter Tryz.func128, Tryz.ntmps128
 go_wp2_with fail
 refine (HS.out _ (HA.out _)).mono ?_
 rintro e w1 ⟨rfl, hf⟩
 have HF := Lib.hid ((HA.out _).then hf)
 clear hf HS
 go_wp2_with fail
 refine wp_region_held_drew (S := (fun _ => True)) (by kernel_rfl) ?_ (fun hH => ?_)
 ·trivial
 refine tk 0 hH ?_
 refine tk 1 hH ?_
 refine tk 2 hH ?_
 refine sk 3 hH ?_
 refine sk 4 hH ?_
 refine sk 5 hH ?_
 refine tk 6 hH ?_
 refine tk 7 hH ?_
 refine sk 8 hH ?_
 refine sk 9 hH ?_
 refine sk 10 hH ?_
 refine sk 11 hH ?_
 refine sk 12 hH ?_
 refine sk 13 hH ?_
 refine sk 14 hH ?_
 refine tk 15 hH ?_
 refine dn ?_
 go_wp2
 go_ret2
 exact ⟨rfl, HF.out.then (Fp.refl Non _).drew⟩
set_option maxHeartbeats 4000000 in
theorem versioned_bad {lo b : Nat} {vn vt : Value} {s : St} {w : World} (h : Sw lo b vn vt s w) (x : Pt) (ha : Asc s.nodes) (hn : s.nodes.length ≤ 1000000) {y : Nd} (hf : find s.nodes x.path = some y) (hbad : 0 ≤ x.ver ∧ x.ver ≠ y.ver) :
  Calls Tryz.prog 128 #[.pointer (some ⟨b, 0, none⟩), ptV x] w fun e w' => e = .returned (.tuple #[.pointer none, .int .i64 63]) ∧ Fp Non w w' := by
 obtain ⟨k, d, p, da, v, o, t⟩ := x
 have hs := fun w' (f : Fp Non w w') => node_some (h.non f) ⟨k, d, p, da, v, o, t⟩ ha hn hf
 simp only at hs
 have hf0 := fp_alloc w (Obj.cells #[.int .i64 k, .string (B d), .string (B p), .string (B da), .int .i64 v, .int .i64 o, .bool t] TP)
 have hb0 := heap_alloc_new w (Obj.cells #[.int .i64 k, .string (B d), .string (B p), .string (B da), .int .i64 v, .int .i64 o, .bool t] TP)
 have HA := Lib.hid (And.intro hf0 hb0)
 simp only at hbad
 obtain ⟨q, hq⟩ : ∃ q, q = place s.nodes p := ⟨_, rfl⟩
 rw [← hq] at hs
 show Calls _ _ _ _ (fun e w' => e = .returned (.tuple #[.pointer none, .int .i64 63]) ∧ Fp Non w w')
 obtain ⟨yp, yd, yv, yt, yo⟩ := y
 unfold ptV strV
 unfold ptV strV at hs
 have HS := Lib.hid hs
 clear h hn ha hf hf0 hb0 hs hq
 have q1 : ((0 : Int) ≤ v) = True := eq_true hbad.1
 have q2 : (v != yv) = true := by simpa using hbad.2
 have q3 : (v == yv) = false := by simpa using hbad.2
 have q4 : (v = yv) = False := eq_false hbad.2
 clear hbad
 go_enter Tryz.func128, Tryz.ntmps128
 go_wp2_with fail
 refine (HS.out _ HA.out.1).mono ?_
 rintro e w1 ⟨G, hG, hnd, rfl, hf⟩
 have HF := Lib.hid (And.intro (HA.out.1.then hf) (And.intro (hf.heap HA.out.2 id) (And.intro (hnd.keep hf id) hG)))
 have HS0 : Hid (w1.drew.cell? ⟨w.heap.size, 4, none⟩ = some (.int .i64 v) ∧ w1.drew.cell? ⟨G, q * 5 + 2, none⟩ = some (.int .i64 yv)) := ⟨(Fp.refl Non w1).drew.cell (boxP7 HF.out.2.1).2.2.2.2.1 id, (Fp.refl Non w1).drew.cell HF.out.2.2.1.c2 id⟩
 clear hf hnd HS hG
 go_wp2_with fail
 refine wp_region_held_drew (S := (fun w' => w'.cell? ⟨w.heap.size, 4, none⟩ = some (.int .i64 v) ∧ w'.cell? ⟨G, q * 5 + 2, none⟩ = some (.int .i64 yv))) (by kernel_rfl) ?_ (fun hH => ?_)
 ·exact HS0.out
 refine tk 0 hH ?_
 refine tk 1 hH ?_
 refine tk 2 hH ?_
 refine tk 3 hH ?_
 refine tk 4 hH ?_
 refine tk 5 hH ?_
 refine tk 6 hH ?_
 refine tk 7 hH ?_
 refine tk 8 hH ?_
 refine tk 9 hH ?_
 refine tk 10 hH ?_
 refine tk 11 hH ?_
 refine tk 12 hH ?_
 refine tk 13 hH ?_
 refine tk 14 hH ?_
 refine tk 15 hH ?_
 refine dn ?_
 go_wp2
 go_ret2
 exact ⟨rfl, HF.out.1.then (Fp.refl Non _).drew⟩
set_option maxHeartbeats 4000000 in
theorem versioned_ok {lo b : Nat} {vn vt : Value} {s : St} {w : World} (h : Sw lo b vn vt s w) (x : Pt) (ha : Asc s.nodes) (hn : s.nodes.length ≤ 1000000) {y : Nd} (hf : find s.nodes x.path = some y) (hbad : ¬ (0 ≤ x.ver ∧ x.ver ≠ y.ver)) :
  Calls Tryz.prog 128 #[.pointer (some ⟨b, 0, none⟩), ptV x] w fun e w' => ∃ G, vn.ownBlock = some G ∧ NdAt w G (place s.nodes x.path * 5) y ∧ e = .returned (.tuple #[.pointer (some ⟨G, place s.nodes x.path * 5, none⟩), .int .i64 0]) ∧ Fp Non w w' := by
 obtain ⟨k, d, p, da, v, o, t⟩ := x
 obtain ⟨G0, hG0, hn0⟩ := node_at h ha hf
 simp only at hG0 hn0
 have hs := fun w' (f : Fp Non w w') => node_some (h.non f) ⟨k, d, p, da, v, o, t⟩ ha hn hf
 simp only at hs
 have hf0 := fp_alloc w (Obj.cells #[.int .i64 k, .string (B d), .string (B p), .string (B da), .int .i64 v, .int .i64 o, .bool t] TP)
 have hb0 := heap_alloc_new w (Obj.cells #[.int .i64 k, .string (B d), .string (B p), .string (B da), .int .i64 v, .int .i64 o, .bool t] TP)
 have HA := Lib.hid (And.intro hf0 hb0)
 simp only at hbad
 obtain ⟨q, hq⟩ : ∃ q, q = place s.nodes p := ⟨_, rfl⟩
 rw [← hq] at hs hn0
 have HND := Lib.hid (And.intro hG0 hn0)
 clear hG0 hn0
 show Calls _ _ _ _ (fun e w' => ∃ G, vn.ownBlock = some G ∧ NdAt w G (place s.nodes p * 5) y ∧ e = .returned (.tuple #[.pointer (some ⟨G, place s.nodes p * 5, none⟩), .int .i64 0]) ∧ Fp Non w w')
 rw [← hq]
 obtain ⟨yp, yd, yv, yt, yo⟩ := y
 unfold ptV strV
 unfold ptV strV at hs
 have HS := Lib.hid hs
 clear h hn ha hf hf0 hb0 hs hq
 by_cases hv : 0 ≤ v
 ·obtain rfl : v = yv := Decidable.byContradiction fun e => hbad ⟨hv, e⟩
  have q1 : ((0 : Int) ≤ v) = True := eq_true hv
  clear hbad hv
  go_enter Tryz.func128, Tryz.ntmps128
  go_wp2_with fail
  refine (HS.out _ HA.out.1).mono ?_
  rintro e w1 ⟨G, hG, hnd, rfl, hf⟩
  obtain rfl : G = G0 := Option.some.inj (hG.symm.trans HND.out.1)
  have HF := Lib.hid (And.intro (HA.out.1.then hf) (And.intro (hf.heap HA.out.2 id) (And.intro (hnd.keep hf id) (And.intro hG HND.out.2))))
  have HS0 : Hid (w1.drew.cell? ⟨w.heap.size, 4, none⟩ = some (.int .i64 v) ∧ w1.drew.cell? ⟨G, q * 5 + 2, none⟩ = some (.int .i64 v)) := ⟨(Fp.refl Non w1).drew.cell (boxP7 HF.out.2.1).2.2.2.2.1 id, (Fp.refl Non w1).drew.cell HF.out.2.2.1.c2 id⟩
  clear hf hnd HS hG
  go_wp2_with fail
  refine wp_region_held_drew (S := (fun w' => w'.cell? ⟨w.heap.size, 4, none⟩ = some (.int .i64 v) ∧ w'.cell? ⟨G, q * 5 + 2, none⟩ = some (.int .i64 v))) (by kernel_rfl) ?_ (fun hH => ?_)
  ·exact HS0.out
  refine tk 0 hH ?_
  refine tk 1 hH ?_
  refine tk 2 hH ?_
  refine tk 3 hH ?_
  refine tk 4 hH ?_
  refine tk 5 hH ?_
  refine tk 6 hH ?_
  refine tk 7 hH ?_
  refine tk 8 hH ?_
  refine tk 9 hH ?_
  refine tk 10 hH ?_
  refine tk 11 hH ?_
  refine tk 12 hH ?_
  refine tk 13 hH ?_
  refine tk 14 hH ?_
  refine tk 15 hH ?_
  refine dn ?_
  go_wp2
  go_ret2
  exact ⟨G, HF.out.2.2.2.1, HF.out.2.2.2.2, rfl, HF.out.1.then (Fp.refl Non _).drew⟩
 have q1 : ((0 : Int) ≤ v) = False := eq_false hv
 clear hbad hv
 go_enter Tryz.func128, Tryz.ntmps128
 go_wp2_with fail
 refine (HS.out _ HA.out.1).mono ?_
 rintro e w1 ⟨G, hG, hnd, rfl, hf⟩
 obtain rfl : G = G0 := Option.some.inj (hG.symm.trans HND.out.1)
 have HF := Lib.hid (And.intro (HA.out.1.then hf) (And.intro (hf.heap HA.out.2 id) (And.intro (hnd.keep hf id) (And.intro hG HND.out.2))))
 have HS0 : Hid (w1.drew.cell? ⟨w.heap.size, 4, none⟩ = some (.int .i64 v) ∧ w1.drew.cell? ⟨G, q * 5 + 2, none⟩ = some (.int .i64 yv)) := ⟨(Fp.refl Non w1).drew.cell (boxP7 HF.out.2.1).2.2.2.2.1 id, (Fp.refl Non w1).drew.cell HF.out.2.2.1.c2 id⟩
 clear hf hnd HS hG
 go_wp2_with fail
 refine wp_region_held_drew (S := (fun w' => w'.cell? ⟨w.heap.size, 4, none⟩ = some (.int .i64 v) ∧ w'.cell? ⟨G, q * 5 + 2, none⟩ = some (.int .i64 yv))) (by kernel_rfl) ?_ (fun hH => ?_)
 ·exact HS0.out
 refine tk 0 hH ?_
 refine tk 1 hH ?_
 refine tk 2 hH ?_
 refine tk 3 hH ?_
 refine tk 4 hH ?_
 refine tk 5 hH ?_
 refine tk 6 hH ?_
 refine tk 7 hH ?_
 refine sk 8 hH ?_
 refine sk 9 hH ?_
 refine sk 10 hH ?_
 refine sk 11 hH ?_
 refine sk 12 hH ?_
 refine sk 13 hH ?_
 refine sk 14 hH ?_
 refine tk 15 hH ?_
 refine dn ?_
 go_wp2
 go_ret2
 exact ⟨G, HF.out.2.2.2.1, HF.out.2.2.2.2, rfl, HF.out.1.then (Fp.refl Non _).drew⟩
end Go.Proofs.YtphoglepiegeiaaGreatDoor
