/- A text of this proof. -/
import Derived.Test.YtphoglepiegeiaaGreatDoorZCD
import Derived.Test.YtphoglepiegeiaaGreatDoorZCF
import Derived.Test.YtphoglepiegeiaaGreatDoorZCG
import Derived.Test.YtphoglepiegeiaaGreatDoorZCM
set_option linter.unusedSimpArgs false
set_option linter.unusedVariables false
namespace Go.Proofs.YtphoglepiegeiaaGreatDoor
set_option maxRecDepth 20000
open Go.RowKit Pm
structure InsT (w : World) (G n : Nat) (l : List Tu) (v' : Value) (w' : World) : Prop where
 ex : ∃ G' cap', v' = .slice (some ⟨G', 0, none⟩) n cap' ∧ Tr2 w' G' cap' l ∧ (G' = G ∨ w.heap.size ≤ G') ∧ Fp (fun j => j = G) w w'
set_option maxHeartbeats 2000000 in
theorem InsertT_end {w : World} {G cap X : Nat} {l : List Tu} {x : Tu} (h : Tr2 w G cap l) (hX : TuAt w X 0 x) (hl : l.length ≤ 4000) (h0 : 0 < l.length) :
  Calls Tryz.prog 167 #[.slice (some ⟨G, 0, none⟩) l.length cap, .int .i64 (l.length : Int), .slice (some ⟨X, 0, none⟩) 1 1] w fun e w' => ∃ v', e = .returned v' ∧ InsT w G (l.length + 1) (l ++ [x]) v' w' := by
 have hap : ∀ ty, ∃ v' w', (Builtin.append_ #[TUL, TUL] ty #[.slice (some ⟨G, 0, none⟩) l.length cap, .slice (some ⟨X, 0, none⟩) 1 1]).run Tryz.prog w = .ok v' w' ∧ InsT w G (l.length + 1) (l ++ [x]) v' w' := fun ty => by
  obtain ⟨G', cap', w', hr, h1, _, h2, h3⟩ := app_turns w 0 _ l [x] ty X 0 1 1 (h.owns (Nat.zero_le _)) rfl (fun i hi => by
   have hi0 : i = 0 := by simp at hi; omega
   subst hi0; exact hX) (by simp; omega) (Nat.zero_le _) (by omega)
  refine ⟨_, w', hr, ⟨G', cap', rfl, h1, ?_, (Fp.refl _ w).grown h2 (fun k hk => .inl (by simp [Value.ownBlock] at hk; exact hk.symm))⟩⟩
  rcases h3 with h3 | h3
  ·left; simp [Value.ownBlock] at h3; exact h3.symm
  exact .inr h3
 have hm := h.most
 have hr := h.room
 unfold maxLen at hm
 generalize l.length = n at *
 have HA := zI hap
 have hn1 : (0 : Int) ≤ (n : Int) := by omega
 clear hap h hX
 go_enter Tryz.func167, Tryz.ntmps167
 go_wp2_with (at_builtin; go_must (refine wpList_app rfl _ _ _ _ rfl _ _ rfl rfl (InsT w G (n + 1) (l ++ [x])) (HA.out TUL) ?_))
 all_goals
  intro v2 w2 hR2
  have HR := zI hR2
  obtain ⟨G', cap', rfl, _⟩ := hR2.ex
  clear hR2
  go_wp2
  go_ret
  exact ⟨_, rfl, HR.out⟩
structure ZerT (w : World) (n gc : Nat) (W1 : World) (v' : Value) (w' : World) : Prop where
 v : v' = .slice (some ⟨w.heap.size, 0, none⟩) (n + 1) gc
 w : w' = W1
theorem zerT {w W1 : World} {n gc k G cap : Nat} {ty : TypeId} (h : ∀ ty, (Builtin.append_ #[TUL, 3] ty #[.slice (some ⟨G, 0, none⟩) k cap, .int .i64 ((n + 1 - k : Nat) : Int)]).run Tryz.prog w = .ok (.slice (some ⟨w.heap.size, 0, none⟩) (n + 1) gc) W1) :
  ∃ v' w', (Builtin.append_ #[TUL, 3] ty #[.slice (some ⟨G, 0, none⟩) k cap, .int .i64 ((n + 1 - k : Nat) : Int)]).run Tryz.prog w = .ok v' w' ∧ ZerT w n gc W1 v' w' := ⟨_, _, h ty, rfl, rfl⟩
theorem growT_cells (l : List Tu) (k : Nat) (hk : k ≤ l.length) (x : Tu) (cur : List Value) (h1 : cur.take (k * 2) = rowsT (l.take k)) (h2 : (l.length + 1) * 2 ≤ cur.length) :
  ∃ rest, ((cur.take (k * 2) ++ rowsT [x] ++ cur.drop (k * 2 + [x].length * 2)).take ((k + 1) * 2) ++ rowsT (l.drop k) ++ (cur.take (k * 2) ++ rowsT [x] ++ cur.drop (k * 2 + [x].length * 2)).drop ((k + 1) * 2 + (l.drop k).length * 2)) = rowsT (insT l k x) ++ rest ∧
   (l.length + 1) * 2 + rest.length = cur.length := by
 have e0 : (rowsT (l.take k) ++ rowsT [x]).length = (k + 1) * 2 := by rw [List.length_append, rowsT_len, rowsT_len, List.length_take]; simp; omega
 refine ⟨(cur.take (k * 2) ++ rowsT [x] ++ cur.drop (k * 2 + [x].length * 2)).drop ((k + 1) * 2 + (l.drop k).length * 2), ?_, ?_⟩
 ·rw [h1]
  rw [List.take_append_of_le_length (by rw [e0]; omega), List.take_of_length_le (by rw [e0]; omega)]
  congr 1
  rw [insT, rowsT_app]
  simp [rowsT, List.append_assoc]
 rw [h1, List.length_drop, List.length_append, e0, List.length_drop, List.length_drop]
 simp; omega
set_option maxHeartbeats 4000000 in
theorem InsertT_grow {w : World} {G cap X : Nat} {l : List Tu} {x : Tu} (h : Tr2 w G cap l) (k : Nat) (hk : k < l.length) (hroom : cap < l.length + 1) (hX : TuAt w X 0 x) (hl : l.length ≤ 4000) :
  Calls Tryz.prog 167 #[.slice (some ⟨G, 0, none⟩) l.length cap, .int .i64 (k : Int), .slice (some ⟨X, 0, none⟩) 1 1] w fun e w' => ∃ v', e = .returned v' ∧ InsT w G (l.length + 1) (insT l k x) v' w' := by
 have hm := h.most
 have hcr := h.room
 unfold maxLen at hm
 obtain ⟨n, hn⟩ : ∃ n, n = l.length := ⟨_, rfl⟩
 obtain ⟨i0, hi0, hz0, hzs, hzb⟩ := info_parts Tryz.infoU
 have hold : (Builtin.firstCells i0.size k (.slice (some ⟨G, 0, none⟩) k cap)).run Tryz.prog w.drew = .ok (rowsT (l.take k)).toArray w.drew := by
  rw [hzs]
  refine run_firstCells_some w.drew 2 k ⟨G, 0, none⟩ k cap (rowsT (l.take k)) (by rw [rowsT_len, List.length_take]; omega) (fun j v hj => ?_)
  have hj2 : j < k * 2 := by have := (List.getElem?_eq_some_iff.1 hj).1; rw [rowsT_len, List.length_take] at this; omega
  have hd : j / 2 < (l.take k).length := by rw [List.length_take]; omega
  have e : j / 2 * 2 + j % 2 = j := by omega
  rw [← e, rowsT_get _ (j / 2) (j % 2) hd (by omega), List.getElem_take] at hj
  have := h.cell (j / 2) (j % 2) (by omega) (by omega)
  rw [e, hj] at this
  rw [Addr.add_lit, Nat.zero_add]
  exact this
 have hrz : ∀ ty, _ := fun ty => Lib.run_append_grow_zeros w TUL 3 ty TU i0 _ .i64 .i64 Tryz.underlying23 Tryz.underlying3 hi0 hz0 (some ⟨G, 0, none⟩) k cap (rowsT (l.take k)) hold (n + 1 - k) (by omega) (by omega) (by omega) (by omega) (by rw [hzb]; omega) (by rw [hzb]; exact growslice_fits (by omega) (by omega))
 rw [show k + (n + 1 - k) = n + 1 from by omega] at hrz
 obtain ⟨gc, hgc⟩ : ∃ gc, gc = grownCap w (n + 1) cap TU := ⟨_, rfl⟩
 have hgl : n + 1 ≤ gc := by rw [hgc]; exact grownCap_ge w (n + 1) cap TU
 have hgm : gc ≤ maxLen := by rw [hgc]; exact grownCap_le_maxLen w (n + 1) cap TU (by unfold maxLen; omega)
 rw [← hgc] at hrz
 obtain ⟨cur, hcur⟩ : ∃ cur : List Value, cur = ((rowsT (l.take k)).toArray ++ Builtin.zeroCells (Value.cells (.agg #[.string ⟨#[]⟩, .int .i64 0])) (n + 1 - k) ++ Builtin.zeroCells (Value.cells (.agg #[.string ⟨#[]⟩, .int .i64 0])) (gc - (n + 1))).toList := ⟨_, rfl⟩
 have hcl : cur.length = gc * 2 := by
  rw [hcur, Array.length_toList, Array.size_append, Array.size_append, size_zeroCells, size_zeroCells, List.size_toArray, rowsT_len, List.length_take]
  show min k l.length * 2 + (n + 1 - k) * 2 + (gc - (n + 1)) * 2 = gc * 2
  omega
 have hct : cur.take (k * 2) = rowsT (l.take k) := by
  rw [hcur, Array.toList_append, Array.toList_append, List.append_assoc, List.take_append_of_le_length (by simp [rowsT_len]; omega), List.take_of_length_le (by simp [rowsT_len]; omega)]
 obtain ⟨W1, hW1⟩ : ∃ W1, W1 = w.drew.alloc (.cells cur.toArray TU) := ⟨_, rfl⟩
 have hrz2 : ∀ ty, (Builtin.append_ #[TUL, 3] ty #[.slice (some ⟨G, 0, none⟩) k cap, .int .i64 ((n + 1 - k : Nat) : Int)]).run Tryz.prog w = .ok (.slice (some ⟨w.heap.size, 0, none⟩) (n + 1) gc) W1 := fun ty => by
  rw [hW1, hcur]; exact hrz ty
 have hf1 : Fp Non w W1 := by rw [hW1]; exact ((Fp.refl Non w).drew).alloc _
 have hg1 : W1.heap[w.heap.size]? = some (.cells cur.toArray TU (0, 0)) := by rw [hW1]; exact heap_alloc_new w.drew _
 have hX1 := hX.keep hf1 id
 have h1 := h.keep hf1 id
 have hGlt := h.lt
 have hc1 : ∀ ty, ∃ v' w', (Builtin.copy_ #[TUL, TUL] ty #[.slice (some ⟨w.heap.size, k * 2, none⟩) (n + 1 - k) (gc - k), .slice (some ⟨X, 0, none⟩) 1 1]).run Tryz.prog W1 = .ok v' w' ∧ CopT w.heap.size gc (cur.take (k * 2) ++ rowsT [x] ++ cur.drop (k * 2 + [x].length * 2)) W1 w' := fun ty =>
  copyT_at hg1 hcl ty (k * 2) (n + 1 - k) (gc - k) ⟨X, 0, none⟩ 1 1 [x] (by simp only [Nat.min_def, List.length_cons, List.length_nil]; split <;> omega) (fun i hi j v hv => by
   have hi0 : i = 0 := by simp at hi; omega
   subst hi0
   have := hX1.get j v hv
   rwa [show 0 * 2 + j = j from by omega]) (by simp; omega)
 have q1 : ((k : Int) == (n : Int)) = false := beq_eq_false_iff_ne.2 (by omega)
 have q2 : ((cap : Int) < (n : Int) + 1) = True := eq_true (by omega)
 have hkn : k < n := by omega
 have hn6 : n ≤ 4000 := by omega
 have hcn : cap = n := by omega
 have wk : IntKind.i64.wrap ((k : Int) + 1) = ((k + 1 : Nat) : Int) := by rw [IntKind.wrap_i64]; omega
 have wn : (n : Int) + 1 - (k : Int) = ((n + 1 - k : Nat) : Int) := by omega
 have r1 : (gc = k + 1) = False := eq_false (by omega)
 have r2 : (gc = k) = False := eq_false (by omega)
 have r8 : (cap = k) = False := eq_false (by omega)
 have r3 : (((k + 1 : Nat) : Int) ≤ (n : Int) + 1) = True := eq_true (by omega)
 have r4 : (k ≤ n) = True := eq_true (by omega)
 have r5 : ((0 : Int) ≤ ((k + 1 : Nat) : Int)) = True := eq_true (by omega)
 have r7 : ((k : Int) ≤ (n : Int) + 1) = True := eq_true (by omega)
 have r6 : ((0 : Int) ≤ (k : Int) + 1) = True := eq_true (by omega)
 have r9 : (k ≤ cap) = True := eq_true (by omega)
 have r10 : ((k : Int) ≤ (cap : Int)) = True := eq_true (by omega)
 have e5 : n + 1 - (k + 1) = n - k := by omega
 rw [← hn]
 have HZ := zI hrz2
 have HC1 := zI hc1
 have HX := zI (yI hn (yI h1 (yI hcl (yI hct (yI hgm (yI hgl (yI hf1 hGlt)))))))
 unfold maxLen at hgm
 clear hrz2 hc1 hrz hold hn h1 hX1 hg1 hf1 hW1 hcl hct hcur hgc hX h hGlt hcn hk hroom hl hcr hi0 hz0 hzs hzb
 go_enter Tryz.func167, Tryz.ntmps167
 go_wp2_with (at_builtin; go_must (refine wpList_app rfl _ _ _ _ rfl _ _ rfl rfl (fun v' w' => ZerT w n gc W1 v' w') (zerT HZ.out) ?_))
 intro v2 w2 hR2
 obtain ⟨rfl, rfl⟩ := hR2
 go_wp2_with fail
 obtain ⟨v3, w3, hr, hR3⟩ := HC1.out 3
 rw [hr]
 simp only [Result.andThen]
 rw [Oper.upon_value]
 clear hr
 have h3 : Tr2 w3 G cap l := HX.out.2.1.keep hR3.fp (fun e => by have := HX.out.2.2.2.2.2.2.2; omega)
 have hd3 : Tr2 w3.drew G cap l := h3.keep ((Fp.refl Non w3).drew) id
 have hl3 := HX.out.1
 have hc2 : ∀ ty, ∃ v' w', (Builtin.copy_ #[TUL, TUL] ty #[.slice (some ⟨w.heap.size, (k + 1) * 2, none⟩) (n - k) (gc - (k + 1)), .slice (some ⟨G, k * 2, none⟩) (n - k) (cap - k)]).run Tryz.prog w3.drew = .ok v' w' ∧ CopT w.heap.size gc _ w3.drew w' := fun ty =>
  copyT_at (w := w3.drew) hR3.hp hR3.len ty ((k + 1) * 2) (n - k) (gc - (k + 1)) ⟨G, k * 2, none⟩ (n - k) (cap - k) (l.drop k) (by rw [List.length_drop, ← hl3]; simp only [Nat.min_def]; split <;> omega) (hd3.src k) (by rw [List.length_drop]; omega)
 have HC2 := zI hc2
 have HF3 := zI hR3.fp
 clear hR3 h3 hd3 hl3 hc2
 go_wp2_with fail
 go_region_law ((refine step_copy rfl _ _ TUL TUL rfl (.slice (some ⟨w.heap.size, (k + 1) * 2, none⟩) (n - k) (gc - (k + 1))) (.slice (some ⟨G, k * 2, none⟩) (n - k) (cap - k)) (by simp [Act.eval, Act.put]) (by simp [Act.eval, Act.put]) (fun _ w' => CopT w.heap.size gc _ w3.drew w') (HC2.out _) ?_; intro v4 w4 hR4))
 obtain ⟨rest2, he, hl2⟩ := growT_cells l k (by have := HX.out.1; omega) x cur HX.out.2.2.2.1 (by have h1 := HX.out.1; have h2 := HX.out.2.2.1; have h3 := HX.out.2.2.2.2.2.1; omega)
 have hrow : Tr2 w4 w.heap.size gc (insT l k x) := by
  refine ⟨⟨rest2, ?_, ?_⟩, ?_, HX.out.2.2.2.2.1⟩
  ·have := hR4.hp; rw [he] at this; exact this
  ·rw [insT_length]; have := HX.out.2.2.1; omega
  rw [insT_length]; have h1 := HX.out.1; have h3 := HX.out.2.2.2.2.2.1; omega
 have hfp : Fp (fun j => j = G) w w4 := (((HX.out.2.2.2.2.2.2.1.any (S := fun j => j = G)).trans HF3.out (fun k hk => .inr (by rw [hk]; exact Nat.le_refl _))).trans (((Fp.refl Non w3).drew.any (S := fun j => j = w.heap.size)).same hR4.fp) (fun k hk => .inr (by rw [hk]; exact Nat.le_refl _)))
 have HR := zI (yI hrow hfp)
 clear hR4 he hl2 hrow hfp
 go_wp2
 go_ret
 exact ⟨_, rfl, ⟨w.heap.size, gc, rfl, HR.out.1, .inr (Nat.le_refl _), HR.out.2⟩⟩
theorem InsertT_c {w : World} {G cap X : Nat} {l : List Tu} {x : Tu} (h : Tr2 w G cap l) (k : Nat) (hk : k ≤ l.length) (hX : w.heap[X]? = some (.cells (tuC x).toArray TU (0, 0))) (hne : X ≠ G) (hl : l.length ≤ 4000) (h0 : 0 < l.length) :
  Calls Tryz.prog 167 #[.slice (some ⟨G, 0, none⟩) l.length cap, .int .i64 (k : Int), .slice (some ⟨X, 0, none⟩) 1 1] w fun e w' => ∃ v', e = .returned v' ∧ InsT w G (l.length + 1) (insT l k x) v' w' := by
 have hnd : TuAt w X 0 x := ⟨by rw [cell_of_row _ _ _ _ _ _ hX]; rfl, by rw [cell_of_row _ _ _ _ _ _ hX]; rfl⟩
 by_cases hkl : k < l.length
 ·by_cases hr : l.length + 1 ≤ cap
  ·refine (InsertT_mid h k hkl hr hnd hne hl hX).mono ?_
   rintro e w' ⟨rfl, h1, h2⟩
   exact ⟨_, rfl, ⟨G, cap, rfl, h1, .inl rfl, h2⟩⟩
  exact InsertT_grow h k hkl (by omega) hnd hl
 obtain rfl : k = l.length := by omega
 have e : insT l l.length x = l ++ [x] := by unfold insT; simp
 rw [e]
 exact InsertT_end h hnd hl h0
structure DelT (w : World) (G cap n : Nat) (l : List Tu) (v' : Value) (w' : World) : Prop where
 v : v' = .slice (some ⟨G, 0, none⟩) n cap
 row : Tr2 w' G cap l
 fp : Fp (fun j => j = G) w w'
theorem appT_in {w : World} {G cap : Nat} {l m : List Tu} (h : Tr2 w G cap l) (k : Nat) (ty : TypeId) (a : Addr) (c : Nat) (hk : k + m.length ≤ l.length) (hm : ∀ i (h : i < m.length) j v, (tuC m[i])[j]? = some v → w.cell? (a.add (i * 2 + j)) = some v) :
  ∃ v' w', (Builtin.append_ #[TUL, TUL] ty #[.slice (some ⟨G, 0, none⟩) k cap, .slice (some a) m.length c]).run Tryz.prog w = .ok v' w' ∧ DelT w G cap (k + m.length) (l.take k ++ m) v' w' := by
 obtain ⟨i, hi, _, hs, _⟩ := info_parts Tryz.infoU
 obtain ⟨rest, hg, hrl⟩ := h.ex
 have hlc : (rowsT l ++ rest).length = cap * 2 := by rw [List.length_append, rowsT_len]; omega
 have hroom := h.room
 have hr := run_append_room (P := Tryz.prog) w TUL ty TU i Tryz.underlying23 hi G k cap (rowsT l ++ rest).toArray hg a m.length c (rowsT m) (by rw [rowsT_len, hs]) (fun j v hv => by
  have hj : j < m.length * 2 := by rw [← rowsT_len]; exact (List.getElem?_eq_some_iff.1 hv).1
  have hd : j / 2 < m.length := by omega
  have e : j / 2 * 2 + j % 2 = j := by omega
  rw [← e, rowsT_get m (j / 2) (j % 2) hd (by omega)] at hv
  have := hm (j / 2) hd (j % 2) v hv
  rwa [e] at this) (rowsT_one m) (by omega) (by rw [hs, rowsT_len, List.size_toArray, hlc]; omega)
 refine ⟨_, _, hr, rfl, ⟨⟨(rowsT l ++ rest).drop (k * 2 + (rowsT m).length), ?_, ?_⟩, ?_, h.most⟩, fp_setRow w G _⟩
 ·have := setRow_heap w G _ (((rowsT l ++ rest).take (k * i.size)) ++ rowsT m ++ (rowsT l ++ rest).drop (k * i.size + (rowsT m).length)).toArray TU _ hg
  rw [hs] at this
  rw [hs]
  rw [this]
  congr 2
  rw [rowsT_app, List.take_append_of_le_length (by rw [rowsT_len]; omega), rowsT_take]
 ·rw [List.length_drop, hlc, rowsT_len, List.length_append, List.length_take]; omega
 rw [List.length_append, List.length_take]; omega
theorem clearT_in {w : World} {G cap : Nat} {l : List Tu} (h : Tr2 w G cap l) (ty : TypeId) (n c : Nat) (h0 : 0 < n) (hn : l.length + n ≤ cap) :
  ∃ w', (Builtin.clear_ #[TUL] ty #[.slice (some ⟨G, l.length * 2, none⟩) n c]).run Tryz.prog w = .ok (.tuple #[]) w' ∧ Tr2 w' G cap l ∧ Fp (fun j => j = G) w w' := by
 obtain ⟨rest, hg, hrl⟩ := h.ex
 have hlc : (rowsT l ++ rest).length = cap * 2 := by rw [List.length_append, rowsT_len]; omega
 obtain ⟨zs, hz, hr⟩ := run_clear_turns w ty G (l.length * 2) n c (rowsT l ++ rest) hg (by rw [hlc]; omega) h0
 refine ⟨_, hr, ⟨⟨zs ++ (rowsT l ++ rest).drop (l.length * 2 + n * 2), ?_, ?_⟩, h.room, h.most⟩, fp_setRow w G _⟩
 ·rw [setRow_heap w G _ _ TU _ hg]
  congr 2
  rw [← rowsT_len l, List.take_left, List.append_assoc]
 rw [List.length_append, List.length_drop, hz, hlc]; omega
set_option maxHeartbeats 4000000 in
theorem DeleteT_c {w : World} {G cap : Nat} {l : List Tu} (h : Tr2 w G cap l) (k : Nat) (hk : k < l.length) (hl : l.length ≤ 4000) :
  Calls Tryz.prog 166 #[.slice (some ⟨G, 0, none⟩) l.length cap, .int .i64 (k : Int), .int .i64 ((k : Int) + 1)] w fun e w' => e = .returned (.slice (some ⟨G, 0, none⟩) (l.length - 1) cap) ∧ Tr2 w' G cap (l.eraseIdx k) ∧ Fp (fun j => j = G) w w' := by
 have hm := h.most
 have hcr := h.room
 unfold maxLen at hm
 obtain ⟨n, hn⟩ : ∃ n, n = l.length := ⟨_, rfl⟩
 have hdd : Tr2 w.drew G cap l := h.keep ((Fp.refl Non w).drew) id
 have he : l.take k ++ l.drop (k + 1) = l.eraseIdx k := (List.eraseIdx_eq_take_drop_succ ..).symm
 obtain ⟨a, ha⟩ : ∃ a : Addr, a = (if cap = k + 1 then ⟨G, 0, none⟩ else ⟨G, (k + 1) * 2, none⟩) := ⟨_, rfl⟩
 have hap : ∀ ty c, ∃ v' w', (Builtin.append_ #[TUL, TUL] ty #[.slice (some ⟨G, 0, none⟩) k cap, .slice (some a) (n - (k + 1)) c]).run Tryz.prog w.drew = .ok v' w' ∧ DelT w.drew G cap (n - 1) (l.eraseIdx k) v' w' := fun ty c => by
  have := appT_in (m := l.drop (k + 1)) hdd k ty a c (by rw [List.length_drop]; omega) (fun i hi j v hv => by
   rw [List.length_drop] at hi
   rw [ha, if_neg (by omega)]
   exact hdd.src (k + 1) i (by rw [List.length_drop]; omega) j v hv)
  rw [he, List.length_drop, ← hn, show k + (n - (k + 1)) = n - 1 from by omega] at this
  exact this
 have hel : (l.eraseIdx k).length = n - 1 := by rw [List.length_eraseIdx, if_pos hk, hn]
 have q1 : ((k : Int) == (k : Int) + 1) = false := beq_eq_false_iff_ne.2 (by omega)
 have hkn : k < n := by omega
 have hn6 : n ≤ 4000 := by omega
 have hcn : n ≤ cap := by omega
 have r1 : (k ≤ cap) = True := eq_true (by omega)
 have r2 : ((k : Int) ≤ (cap : Int)) = True := eq_true (by omega)
 have r3 : ((0 : Int) ≤ (k : Int) + 1) = True := eq_true (by omega)
 have r4 : ((k : Int) + 1 ≤ (n : Int)) = True := eq_true (by omega)
 have r5 : ((k : Int) + 1).toNat = k + 1 := by omega
 have r7 : (n - 1 ≤ n) = True := eq_true (by omega)
 have r8 : (cap = n - 1) = False := eq_false (by omega)
 have r10 : (n ≤ cap) = True := eq_true hcn
 have r11 : (((n - 1 : Nat) : Int) ≤ (n : Int)) = True := eq_true (by omega)
 have r12 : n - (n - 1) = 1 := by omega
 rw [← hn]
 have HX := zI (yI hn (yI hel (yI hcn hkn)))
 by_cases hc : cap = k + 1
 ·have r6 : (cap = k + 1) = True := eq_true hc
  rw [if_pos hc] at ha
  subst ha
  have HA := zI hap
  clear hap hdd he h hn hk hl hcr hel hc
  go_enter Tryz.func166, Tryz.ntmps166
  go_wp2_with fail
  go_region_law ((refine step_app rfl _ _ TUL TUL rfl (.slice (some ⟨G, 0, none⟩) k cap) (.slice (some ⟨G, 0, none⟩) (n - (k + 1)) (cap - (k + 1))) (by simp [Act.eval, Act.put]) (by simp [Act.eval, Act.put]) (DelT w.drew G cap (n - 1) (l.eraseIdx k)) (HA.out _ _) ?_; intro v4 w4 hR4))
  obtain rfl := hR4.v
  have hcl := clearT_in hR4.row 0 1 (cap - (n - 1)) (by omega) (by have := HX.out; omega)
  rw [HX.out.2.1] at hcl
  have HCL := zI hcl
  have HF := zI (((Fp.refl Non w).drew.any (S := fun j => j = G)).same hR4.fp)
  clear hR4 hcl
  go_wp2_with fail
  obtain ⟨w5, hr, hrow, hf5⟩ := HCL.out
  rw [hr]
  simp only [Result.andThen]
  rw [Oper.upon_value]
  have HR := zI (yI hrow (HF.out.same hf5))
  clear hr hrow hf5
  go_wp2
  go_ret
  exact ⟨rfl, HR.out.1, HR.out.2⟩
 have r6 : (cap = k + 1) = False := eq_false hc
 rw [if_neg hc] at ha
 subst ha
 have HA := zI hap
 clear hap hdd he h hn hk hl hcr hel hc
 go_enter Tryz.func166, Tryz.ntmps166
 go_wp2_with fail
 go_region_law ((refine step_app rfl _ _ TUL TUL rfl (.slice (some ⟨G, 0, none⟩) k cap) (.slice (some ⟨G, (k + 1) * 2, none⟩) (n - (k + 1)) (cap - (k + 1))) (by simp [Act.eval, Act.put]) (by simp [Act.eval, Act.put]) (DelT w.drew G cap (n - 1) (l.eraseIdx k)) (HA.out _ _) ?_; intro v4 w4 hR4))
 obtain rfl := hR4.v
 have hcl := clearT_in hR4.row 0 1 (cap - (n - 1)) (by omega) (by have := HX.out; omega)
 rw [HX.out.2.1] at hcl
 have HCL := zI hcl
 have HF := zI (((Fp.refl Non w).drew.any (S := fun j => j = G)).same hR4.fp)
 clear hR4 hcl
 go_wp2_with fail
 obtain ⟨w5, hr, hrow, hf5⟩ := HCL.out
 rw [hr]
 simp only [Result.andThen]
 rw [Oper.upon_value]
 have HR := zI (yI hrow (HF.out.same hf5))
 clear hr hrow hf5
 go_wp2
 go_ret
 exact ⟨rfl, HR.out.1, HR.out.2⟩
theorem nil_sliceT (w : World) (a : Addr) (n c : Nat) : (binOp .eql TUL (.slice (some a) n c) (.slice none 0 0)).run Tryz.prog w = .ok (.bool false) w :=
 Lib.run_eql_slice_nil w TUL TU (some a) n c 0 0 Tryz.underlying23
set_option maxHeartbeats 1000000 in
theorem turnPlace1_c (n : Tu) (p : Bs) (w : World) :
  Calls Tryz.prog 183 #[tuV n, .string (B p)] w fun e w' => e = .returned (.int .i64 (cmpI n.dir p)) ∧ Fp Non w w' := by
 obtain ⟨np, t⟩ := n
 unfold tuV strV
 have hf : ∀ o, Fp Non w (w.alloc o) := fun o => (Fp.refl Non w).alloc o
 have hc := fun w => Tryz.strings_Compare (B np) (B p) w
 have e : ∀ l : Bs, (B l).data.toList = l := fun l => by unfold B; rfl
 simp only [e, cmp_eq] at hc
 have HF := zI hf
 have HC := zI hc
 clear hf hc e
 go_enter Tryz.func183, Tryz.ntmps183
 go_wp2_with fail
 refine (HC.out _).mono ?_
 rintro e w1 ⟨rfl, rfl⟩
 go_wp2
 go_ret
 exact ⟨rfl, HF.out _⟩
structure BsT (l : List Tu) (p : Bs) (w : World) (i j : Nat) (wr : World) : Prop where
 fp : Fp Non w wr
 lo : ∀ x (h : x < l.length), x < i → lt l[x].dir p = true
 hi : ∀ x (h : x < l.length), j ≤ x → lt l[x].dir p = false
 ij : i ≤ j
 jn : j ≤ l.length
set_option maxHeartbeats 2000000 in
theorem SearchT_c (v : Value) (l : List Tu) (p : Bs) (w : World) (hv : Ts w v l) (ha : AscT l) (hn : l.length ≤ 1000000) :
  Calls Tryz.prog 182 #[v, .string (B p), .func (.func 183) #[] #[]] w fun e w' => e = .returned (.tuple #[.int .i64 (placeT l p), .bool (findT l p).isSome]) ∧ Fp Non w w' := by
 obtain ⟨ao, cap, rfl⟩ := hv.shape
 obtain ⟨n, hnn⟩ : ∃ n, n = l.length := ⟨_, rfl⟩
 have HX := zI (yI hnn (yI hv ha))
 have H0 : Hid (BsT l p w 0 n w) := ⟨Fp.refl _ _, fun x _ h => absurd h (Nat.not_lt_zero x), fun x h1 h2 => by omega, Nat.zero_le _, by omega⟩
 rw [← hnn]
 have hnb : n ≤ 1000000 := by omega
 clear hv ha hn hnn
 go_enter Tryz.func182, Tryz.ntmps182
 go_wp2_with fail
 go_loopw [9, 10] (fun i j wr => ∃ a b : Nat, a ≤ n ∧ b ≤ n ∧ i = .int .i64 a ∧ j = .int .i64 b ∧ Hid (BsT l p w a b wr)) (fun i j _ => (RowKit.intOf j).toNat - (RowKit.intOf i).toNat)
 case atStart => exact ⟨0, n, Nat.zero_le _, Nat.le_refl _, rfl, rfl, H0⟩
 obtain ⟨a, b, han, hbn, rfl, rfl, hR⟩ := hrel
 rename_i wr _
 by_cases hlt : a < b
 ·obtain ⟨h, hh⟩ : ∃ h, h = (a + b) / 2 := ⟨_, rfl⟩
  have hab : a ≤ h ∧ h < b := by omega
  have he : ((a : Int) + (b : Int)) / 2 = (h : Int) := by omega
  have hhl : h < l.length := by rw [← HX.out.1]; omega
  have q5 : (h < n) = True := eq_true (by omega)
  have q6 : ((h : Int) < (n : Int)) = True := eq_true (by omega)
  obtain ⟨g, o, cap', e, _, _, _, hcell⟩ := HX.out.2.1.at (by omega)
  injection e with e1 e2 e3
  subst e1 e3
  have hnd := (hcell h hhl).keep hR.out.fp id
  have hdn : lt l[h].dir p = true → ∀ x (hx : x < l.length), x < h + 1 → lt l[x].dir p = true := fun k x hx hxh => by
   rcases Nat.lt_or_eq_of_le (show x ≤ h by omega) with e | e
   ·exact lt_trans (HX.out.2.2 x h hx hhl e) k
   subst e; exact k
  have hup : lt l[h].dir p = false → ∀ x (hx : x < l.length), h ≤ x → lt l[x].dir p = false := fun k x hx hxh => by
   rcases Nat.lt_or_eq_of_le hxh with e | e
   ·cases c : lt l[x].dir p with
    | false => rfl
    | true => rw [lt_trans (HX.out.2.2 h x hhl hx e) c] at k; cases k
   subst e; exact k
  have hpc := fun w => turnPlace1_c l[h] p w
  have HB := zI (yI hdn hup)
  have HA := zI (yI hab (yI han hbn))
  clear hcell hdn hup hh han hbn
  generalize l[h] = y at *
  have c0 := hnd.c0; have c1 := hnd.c1
  unfold strV at c0
  unfold tuV strV at hpc
  have q3 : ((a : Int) < (b : Int)) = True := eq_true (by omega)
  have q4 : (a < b) = True := eq_true hlt
  have hcmp : ∃ z, cmpI y.dir p = z := ⟨_, rfl⟩
  obtain ⟨z, hz⟩ := hcmp
  rw [hz] at hpc
  have HPC := zI hpc
  have hhb : h ≤ 1000000 := by have := HA.out; omega
  clear hnd hpc hhl hlt hab
  by_cases hlo : lt y.dir p = true
  ·have z0 : (z < 0) = True := eq_true (by rw [← hz]; unfold cmpI; rw [if_pos hlo]; decide)
   have HLo := zI hlo
   clear hz hlo
   go_wp2_with fail
   refine (HPC.out _).mono ?_
   rintro e w2 ⟨rfl, hf2⟩
   have hM : Hid (BsT l p w (h + 1) b w2) := ⟨hR.out.fp.then hf2, HB.out.1 HLo.out, hR.out.hi, by have := HA.out.1; omega, hR.out.jn⟩
   clear hf2
   go_wp2
   go_roundw
   case rel => exact ⟨h + 1, b, by have := HA.out; omega, HA.out.2.2, by go_num, rfl, hM⟩
   case measure => have := HA.out; simp [RowKit.intOf]; omega
  have hlo' : lt y.dir p = false := by simpa using hlo
  have z0 : (z < 0) = False := eq_false (by rw [← hz]; unfold cmpI; rw [if_neg hlo]; split <;> decide)
  have HLo := zI hlo'
  clear hz hlo hlo'
  go_wp2_with fail
  refine (HPC.out _).mono ?_
  rintro e w2 ⟨rfl, hf2⟩
  have hM : Hid (BsT l p w a h w2) := ⟨hR.out.fp.then hf2, hR.out.lo, HB.out.2 HLo.out, by have := HA.out.1; omega, by have := HA.out.1; have := hR.out.jn; omega⟩
  clear hf2
  go_wp2
  go_roundw
  case rel => exact ⟨a, h, HA.out.2.1, by have := HA.out; omega, rfl, rfl, hM⟩
  case measure => have := HA.out; simp [RowKit.intOf]; omega
 have hab : a = b := by have := hR.out.ij; omega
 subst hab
 have hpl : placeT l p = a := placeT_of hR.out.jn hR.out.lo hR.out.hi
 have q3 : ((a : Int) < (a : Int)) = False := eq_false (by omega)
 have hfp := findT_place HX.out.2.2 p
 rw [hpl] at hfp
 have HP := zI hpl
 by_cases hal : a < n
 ·have hal' : a < l.length := by rw [← HX.out.1]; exact hal
  rw [dif_pos hal'] at hfp
  obtain ⟨g, o, cap', e, _, _, _, hcell⟩ := HX.out.2.1.at (by omega)
  injection e with e1 e2 e3
  subst e1 e3
  have hnd := (hcell a hal').keep hR.out.fp id
  have hpc := fun w => turnPlace1_c l[a] p w
  have hnl := hR.out.hi a hal' (Nat.le_refl _)
  clear hcell
  generalize l[a] = y at *
  have c0 := hnd.c0; have c1 := hnd.c1
  unfold strV at c0
  unfold tuV strV at hpc
  have q5 : ((a : Int) < (n : Int)) = True := eq_true (by omega)
  have q6 : (a < n) = True := eq_true hal
  obtain ⟨z, hz⟩ : ∃ z, cmpI y.dir p = z := ⟨_, rfl⟩
  have hze : (z == 0) = (findT l p).isSome := by
   rw [hfp, ← hz]; unfold cmpI
   rw [if_neg (by rw [hnl]; exact Bool.false_ne_true)]
   by_cases e : y.dir = p
   ·rw [if_pos e, if_pos e]; rfl
   rw [if_neg e, if_neg e]; rfl
  rw [hz] at hpc
  have HPC := zI hpc
  have HZ := zI hze
  clear hnd hpc hz hze hfp hnl hal hal' hpl han hbn
  go_wp2_with fail
  refine (HPC.out _).mono ?_
  rintro e w2 ⟨rfl, hf2⟩
  have HF := zI (hR.out.fp.then hf2)
  clear hf2
  go_wp2
  go_ret2
  exact ⟨by rw [HP.out, ← HZ.out]; rfl, HF.out⟩
 have q5 : ((a : Int) < (n : Int)) = False := eq_false (by omega)
 have q6 : (a < n) = False := eq_false hal
 rw [dif_neg (by rw [← HX.out.1]; exact hal)] at hfp
 have HFN := zI hfp
 clear hfp hpl hal hlt han hbn
 go_wp2
 go_ret2
 exact ⟨by rw [HP.out, HFN.out]; rfl, hR.out.fp⟩
def OwT (lo : Nat) (w : World) (v : Value) (l : List Tu) : Prop := w.ownsRow lo TU 2 v l.length (rowsT l)
theorem OwT.ways {lo : Nat} {w : World} {v : Value} {l : List Tu} (h : OwT lo w v l) : (v = .slice none 0 0 ∧ l = []) ∨ ∃ G cap, v = .slice (some ⟨G, 0, none⟩) l.length cap ∧ Tr2 w G cap l ∧ lo ≤ G := by
 have h' := h
 unfold OwT at h'
 rcases h'.2 with ⟨h0, h1⟩ | ⟨g, cap, cur, e, hb, hg, h1, h2, h3, h4⟩
 ·refine .inl ⟨h0, ?_⟩
  cases l with
  | nil => rfl
  | cons x l => simp at h1
 refine .inr ⟨g, cap, e, ?_⟩
 unfold OwT at h
 rw [e] at h
 exact Tr2.of_owns h rfl
theorem OwT.ns {lo : Nat} {w : World} {v : Value} {l : List Tu} (h : OwT lo w v l) : Ts w v l := by
 rcases h.ways with ⟨rfl, rfl⟩ | ⟨G, cap, rfl, h1, _⟩
 ·exact Ts.nil w
 exact h1.ns
theorem OwT.row {lo : Nat} {w : World} {G cap : Nat} {l : List Tu} (h : Tr2 w G cap l) (hlo : lo ≤ G) : OwT lo w (.slice (some ⟨G, 0, none⟩) l.length cap) l := h.owns hlo
theorem OwT.nil (lo : Nat) (w : World) : OwT lo w (.slice none 0 0) [] := ⟨rfl, .inl ⟨rfl, rfl⟩⟩
theorem OwT.keep {lo : Nat} {w w' : World} {v : Value} {l : List Tu} (h : OwT lo w v l) {S : Nat → Prop} (f : Fp S w w') (hS : ∀ k, v.ownBlock = some k → ¬ S k) : OwT lo w' v l := by
 rcases h.ways with ⟨rfl, rfl⟩ | ⟨G, cap, rfl, h1, h2⟩
 ·exact OwT.nil lo w'
 exact OwT.row (h1.keep f (hS G rfl)) h2
theorem OwT.non {lo : Nat} {w w' : World} {v : Value} {l : List Tu} (h : OwT lo w v l) (f : Fp Non w w') : OwT lo w' v l := h.keep f (fun _ _ h => h)
theorem OwT.low {lo : Nat} {w : World} {v : Value} {l : List Tu} (h : OwT lo w v l) : ∀ k, v.ownBlock = some k → lo ≤ k := by
 rcases h.ways with ⟨rfl, rfl⟩ | ⟨G, cap, rfl, _, h2⟩
 ·intro k hk; simp [Value.ownBlock] at hk
 intro k hk; simp [Value.ownBlock] at hk; omega
theorem appT_own (w : World) (lo : Nat) (v : Value) (l m : List Tu) (ty : TypeId) (a : Addr) (n c : Nat) (hv : OwT lo w v l) (hn : n = m.length) (hx : ∀ i (h : i < m.length) j u, (tuC m[i])[j]? = some u → w.cell? (a.add (i * 2 + j)) = some u) (h6 : l.length + m.length ≤ 100000) (hlo : lo ≤ w.heap.size) :
  ∃ v' w', (Builtin.append_ #[TUL, TUL] ty #[v, .slice (some a) n c]).run Tryz.prog w = .ok v' w' ∧ OwT lo w' v' (l ++ m) ∧ w.grownBy w' v.ownBlock ∧ ∀ k, v'.ownBlock = some k → v.ownBlock = some k ∨ w.heap.size ≤ k := by
 obtain ⟨i, hi, hz, hsz, hby⟩ := info_parts Tryz.infoU
 subst hn
 obtain ⟨v', w', hr, h4, h5, _, h8⟩ := run_append_own_at (P := Tryz.prog) w lo TUL ty TU i _ 2 24 Tryz.underlying23 hi hz hsz hby rfl (by decide) v l.length (rowsT l) hv a m.length c (rowsT m) (rowsT_len m)
  (fun j u hu => by
   have hj : j < m.length * 2 := by rw [← rowsT_len]; exact (List.getElem?_eq_some_iff.1 hu).1
   have hd : j / 2 < m.length := by omega
   have e : j / 2 * 2 + j % 2 = j := by omega
   rw [← e, rowsT_get m (j / 2) (j % 2) hd (by omega)] at hu
   have := hx (j / 2) hd (j % 2) u hu
   rwa [e] at this)
  (rowsT_one m) (by unfold maxLen; omega) (by omega) hlo
 refine ⟨v', w', hr, ?_, h5, fun k hk => ?_⟩
 ·unfold OwT
  rw [rowsT_app, List.length_append]; exact h4
 rcases h8 with e | e
 ·exact .inl (by rw [← e]; exact hk)
 rw [hk] at e; injection e with e; exact .inr (by omega)
structure OwTR (w : World) (l : List Tu) (v' : Value) (w' : World) : Prop where
 own : OwT w.heap.size w' v' l
 fp : Fp Non w w'
set_option maxHeartbeats 2000000 in
theorem CloneT_own (v : Value) (l : List Tu) (w : World) (hv : Ts w v l) (h5 : l.length ≤ 100000) :
  Calls Tryz.prog 56 #[v] w fun e w' => ∃ v', e = .returned v' ∧ OwTR w l v' w' := by
 obtain ⟨ao, cap, rfl, h1, h2, h3⟩ := hv.ex
 cases ao with
 | none =>
  obtain rfl : l = [] := by
   rcases h3 with h | ⟨_, _, h, _⟩
   ·exact h
   cases h
  have hnil : ∀ w : World, (binOp .eql TUL (.slice none 0 cap) (.slice none 0 0)).run Tryz.prog w = .ok (.bool true) w := fun w => Lib.run_eql_slice_nil w TUL TU none 0 cap 0 0 Tryz.underlying23
  clear h1 h2 h3 hv h5
  simp only [List.length_nil]
  go_enter Tryz.func56, Tryz.ntmps56
  go_wp2
  go_ret
  exact ⟨_, rfl, OwT.nil _ _, Fp.refl _ _⟩
 | some a => ?_
 have hown : OwT w.heap.size (w.alloc (.cells #[] TU)) (.slice (some ⟨w.heap.size, 0, none⟩) 0 0) [] := World.ownsRow_lit w #[] 0 (Nat.le_refl _) (by unfold maxLen; omega) rfl
 have hx : ∀ i (h : i < l.length) j u, (tuC l[i])[j]? = some u → (w.alloc (.cells #[] TU)).cell? (a.add (i * 2 + j)) = some u := fun i hi j u hu => by
  rcases h3 with h | ⟨g, o, e, _, hc⟩
  ·subst h; simp at hi
  injection e with e; subst e
  have := ((hc i hi).keep ((Fp.refl Non w).alloc (.cells #[] TU)) id).get j u hu
  rw [Addr.add_lit] at this ⊢
  rwa [Nat.add_assoc] at this
 have hap : ∀ ty, ∃ v' w', (Builtin.append_ #[TUL, TUL] ty #[.slice (some ⟨w.heap.size, 0, none⟩) 0 0, .slice (some a) l.length cap]).run Tryz.prog (w.alloc (.cells #[] TU)) = .ok v' w' ∧ OwTR w l v' w' := fun ty => by
  obtain ⟨v', w', hr, ho, hg, _⟩ := appT_own (w.alloc (.cells #[] TU)) w.heap.size _ [] l ty a l.length cap hown rfl hx (by simp; omega) (by simp)
  exact ⟨v', w', hr, ho, ((Fp.refl Non w).alloc _).grown hg (fun k hk => .inr (by simp [Value.ownBlock] at hk; omega))⟩
 have hnil := nil_sliceT
 have HA2 := zI (hap TUL)
 clear hap hown hx hv h1 h2 h3 h5
 generalize l.length = n at *
 go_enter Tryz.func56, Tryz.ntmps56
 go_wp2_with (at_builtin; go_must (refine wpList_app rfl _ _ _ _ rfl _ _ rfl rfl (OwTR w l) HA2.out ?_))
 intro u w2 hR
 have HR := zI hR
 clear hR
 go_wp2
 go_ret
 exact ⟨_, rfl, HR.out⟩
structure ChTR (lo : Nat) (w : World) (v : Value) (l : List Tu) (v' : Value) (w' : World) : Prop where
 own : OwT lo w' v' l
 fp : Fp (fun k => v.ownBlock = some k) w w'
 new : ∀ k, v'.ownBlock = some k → v.ownBlock = some k ∨ w.heap.size ≤ k
set_option maxHeartbeats 2000000 in
theorem InsertT_own {lo : Nat} {w : World} {v : Value} {X : Nat} {l : List Tu} {x : Tu} (h : OwT lo w v l) (k : Nat) (hk : k ≤ l.length) (hX : w.heap[X]? = some (.cells (tuC x).toArray TU (0, 0))) (hne : v.ownBlock ≠ some X) (hl : l.length ≤ 4000) (hlo : lo ≤ w.heap.size) :
  Calls Tryz.prog 167 #[v, .int .i64 (k : Int), .slice (some ⟨X, 0, none⟩) 1 1] w fun e w' => ∃ v', e = .returned v' ∧ ChTR lo w v (insT l k x) v' w' := by
 have hnd : TuAt w X 0 x := ⟨by rw [cell_of_row _ _ _ _ _ _ hX]; rfl, by rw [cell_of_row _ _ _ _ _ _ hX]; rfl⟩
 rcases h.ways with ⟨rfl, rfl⟩ | ⟨G, cap, rfl, h1, h2⟩
 ·obtain rfl : k = 0 := by simpa using hk
  have hap : ∀ ty, ∃ v' w', (Builtin.append_ #[TUL, TUL] ty #[.slice none 0 0, .slice (some ⟨X, 0, none⟩) 1 1]).run Tryz.prog w = .ok v' w' ∧ ChTR lo w (.slice none 0 0) (insT [] 0 x) v' w' := fun ty => by
   obtain ⟨v', w', hr, ho, hg, hn8⟩ := appT_own w lo (.slice none 0 0) [] [x] ty ⟨X, 0, none⟩ 1 1 h rfl (fun i hi j u hu => by
    have hi0 : i = 0 := by simp at hi; omega
    subst hi0
    have := hnd.get j u hu
    rwa [show 0 * 2 + j = j from by omega]) (by simp) hlo
   exact ⟨v', w', hr, ho, (Fp.refl _ w).grown hg (fun k hk => .inl hk), hn8⟩
  have HA := zI hap
  clear hap h hk hX hnd hl
  go_enter Tryz.func167, Tryz.ntmps167
  go_wp2_with (at_builtin; go_must (refine wpList_app rfl _ _ _ _ rfl _ _ rfl rfl (ChTR lo w (.slice none 0 0) (insT [] 0 x)) (HA.out TUL) ?_))
  all_goals
   intro v2 w2 hR2
   have HR := zI hR2
   clear hR2
   go_wp2
   go_ret
   exact ⟨_, rfl, HR.out⟩
 have hne' : X ≠ G := fun e => hne (by rw [e]; rfl)
 have hf : ∀ w', Fp (fun j => j = G) w w' → Fp (fun k => (Value.slice (some ⟨G, 0, none⟩) l.length cap).ownBlock = some k) w w' := fun w' f => f.mono (fun k hk => by rw [hk]; rfl)
 by_cases h0 : 0 < l.length
 ·refine (InsertT_c h1 k hk hX hne' hl h0).mono ?_
  rintro e w' ⟨v', rfl, hR⟩
  obtain ⟨G', cap', rfl, a1, a2, a3⟩ := hR.ex
  refine ⟨_, rfl, ?_, hf w' a3, fun k hk => by rcases a2 with e | e <;> (simp only [Value.ownBlock, Option.some.injEq] at hk ⊢; omega)⟩
  have := OwT.row (lo := lo) a1 (by rcases a2 with e | e <;> omega)
  rwa [insT_length] at this
 obtain rfl : l = [] := List.eq_nil_of_length_eq_zero (by omega)
 obtain rfl : k = 0 := by simpa using hk
 have hap : ∀ ty, ∃ v' w', (Builtin.append_ #[TUL, TUL] ty #[.slice (some ⟨G, 0, none⟩) 0 cap, .slice (some ⟨X, 0, none⟩) 1 1]).run Tryz.prog w = .ok v' w' ∧ ChTR lo w (.slice (some ⟨G, 0, none⟩) 0 cap) (insT [] 0 x) v' w' := fun ty => by
  obtain ⟨v', w', hr, ho, hg, hn8⟩ := appT_own w lo (.slice (some ⟨G, 0, none⟩) 0 cap) [] [x] ty ⟨X, 0, none⟩ 1 1 h rfl (fun i hi j u hu => by
   have hi0 : i = 0 := by simp at hi; omega
   subst hi0
   have := hnd.get j u hu
   rwa [show 0 * 2 + j = j from by omega]) (by simp) hlo
  exact ⟨v', w', hr, ho, (Fp.refl _ w).grown hg (fun k hk => .inl hk), hn8⟩
 have HA := zI hap
 have hm := h1.most
 unfold maxLen at hm
 clear hap h hk hX hnd hl h1 hf h0
 simp only [List.length_nil]
 go_enter Tryz.func167, Tryz.ntmps167
 go_wp2_with (at_builtin; go_must (refine wpList_app rfl _ _ _ _ rfl _ _ rfl rfl (ChTR lo w (.slice (some ⟨G, 0, none⟩) 0 cap) (insT [] 0 x)) (HA.out TUL) ?_))
 all_goals
  intro v2 w2 hR2
  have HR := zI hR2
  clear hR2
  go_wp2
  go_ret
  exact ⟨_, rfl, HR.out⟩
theorem DeleteT_own {lo : Nat} {w : World} {v : Value} {l : List Tu} (h : OwT lo w v l) (k : Nat) (hk : k < l.length) (hl : l.length ≤ 4000) :
  Calls Tryz.prog 166 #[v, .int .i64 (k : Int), .int .i64 ((k : Int) + 1)] w fun e w' => ∃ v', e = .returned v' ∧ ChTR lo w v (l.eraseIdx k) v' w' := by
 rcases h.ways with ⟨rfl, rfl⟩ | ⟨G, cap, rfl, h1, h2⟩
 ·simp at hk
 refine (DeleteT_c h1 k hk hl).mono ?_
 rintro e w' ⟨rfl, a1, a2⟩
 refine ⟨_, rfl, ?_, a2.mono (fun k hk => by rw [hk]; rfl), fun k hk => .inl hk⟩
 have := OwT.row (lo := lo) a1 h2
 rwa [List.length_eraseIdx, if_pos hk] at this
end Go.Proofs.YtphoglepiegeiaaGreatDoor
