/- A text of this proof. -/
import Derived.Laws.Externs
import Derived.Lib.AppendZerosOnto
import Derived.Lib.Overlaps
import Derived.Test.YtphoglepiegeiaaGreatDoorZCF
set_option linter.unusedSimpArgs false
set_option linter.unusedVariables false
namespace Go.Proofs.YtphoglepiegeiaaGreatDoor
set_option maxRecDepth 20000
open Go.RowKit Pm
theorem step_copy {P : Program} {ops : Array Oper} {o : Oper} {a : Act} {w : World} {K : Act → World → Prop} {Q : Exit → Act → World → Prop} {E : Prop} (hgd : o.guard = none) (s x : Operand) (t u : TypeId)
  (ho : o.op = .call { callee := .builtin .copy, args := #[s, x], argTypes := #[t, u] }) (v xv : Value) (hs : a.eval s = v) (hx : a.eval x = xv) (R : Value → World → Prop)
  (hr : ∃ v' w', (Builtin.copy_ #[t, u] o.type #[v, xv]).run P w = .ok v' w' ∧ R v' w') (h : ∀ v' w', R v' w' → K (a.put o.dst v') w') :
  if Region.wanted o (yielded ops a.tmps) = true then Oper.wp P o a w K Q else E := by
 have hw : Region.wanted o (yielded ops a.tmps) = true := by simp [Region.wanted, hgd]
 rw [if_pos hw]
 obtain ⟨v', w', hr, h2⟩ := hr
 unfold Oper.wp execOp
 simp only [ho, resolve, invoke, builtin, Sem.run_bind, Sem.run_pure, Result.andThen_ok, List.map_toArray, List.map_cons, List.map_nil, hs, hx, hr]
 exact h v' w' h2
structure CopR (G cap : Nat) (cur : List Value) (w w' : World) : Prop where
 hp : w'.heap[G]? = some (.cells cur.toArray TN (0, 0))
 len : cur.length = cap * 5
 fp : Fp (fun k => k = G) w w'
theorem copy_at {w : World} {G cap : Nat} {cur : List Value} (hg : w.heap[G]? = some (.cells cur.toArray TN (0, 0))) (hl : cur.length = cap * 5) (ty : TypeId) (o dLen dCap : Nat) (a : Addr) (sLen sCap : Nat) (l : List Nd) (hm : l.length = Nat.min sLen dLen)
  (hsrc : ∀ i (h : i < l.length) j v, (ndC l[i])[j]? = some v → w.cell? (a.add (i * 5 + j)) = some v) (hfit : o + l.length * 5 ≤ cap * 5) :
  ∃ v' w', (Builtin.copy_ #[TL, TL] ty #[.slice (some ⟨G, o, none⟩) dLen dCap, .slice (some a) sLen sCap]).run Tryz.prog w = .ok v' w' ∧ CopR G cap (cur.take o ++ rows l ++ cur.drop (o + l.length * 5)) w w' := by
 have h := run_copy_nodes w ty G o dLen dCap a sLen sCap cur l.length (rows l) hg hm (rows_len l) (fun j v hv => by
  have hj : j < l.length * 5 := by rw [← rows_len]; exact (List.getElem?_eq_some_iff.1 hv).1
  have hd : j / 5 < l.length := by omega
  have e : j / 5 * 5 + j % 5 = j := by omega
  rw [← e, rows_get l (j / 5) (j % 5) hd (by omega)] at hv
  have := hsrc (j / 5) hd (j % 5) v hv
  rwa [e] at this) (by rw [rows_len, hl]; exact hfit) (rows_one l)
 rw [rows_len] at h
 refine ⟨_, _, h, setRow_heap w G _ _ TN _ hg, ?_, fp_setRow w G _⟩
 simp only [List.length_append, List.length_take, List.length_drop, rows_len, hl]
 omega
theorem Nr.src {w : World} {G cap : Nat} {l : List Nd} (h : Nr w G cap l) (k : Nat) : ∀ i (hi : i < (l.drop k).length) j v, (ndC (l.drop k)[i])[j]? = some v → w.cell? ((⟨G, k * 5, none⟩ : Addr).add (i * 5 + j)) = some v := by
 intro i hi j v hv
 rw [List.length_drop] at hi
 rw [List.getElem_drop] at hv
 have hj : j < 5 := by have := (List.getElem?_eq_some_iff.1 hv).1; simpa [ndC] using this
 rw [Addr.add_lit, show k * 5 + (i * 5 + j) = (k + i) * 5 + j from by omega, h.cell (k + i) j (by omega) hj, hv]
theorem ins_cells (l : List Nd) (k : Nat) (hk : k ≤ l.length) (x : Nd) (cur : List Value) (h1 : cur.take (k * 5) = rows (l.take k)) (h2 : (l.length + 1) * 5 ≤ cur.length) :
  ∃ rest, ((cur.take ((k + 1) * 5) ++ rows (l.drop k) ++ cur.drop ((k + 1) * 5 + (l.drop k).length * 5)).take (k * 5) ++ rows [x] ++ (cur.take ((k + 1) * 5) ++ rows (l.drop k) ++ cur.drop ((k + 1) * 5 + (l.drop k).length * 5)).drop (k * 5 + [x].length * 5)) = rows (ins l k x) ++ rest ∧
   (l.length + 1) * 5 + rest.length = cur.length := by
 refine ⟨cur.drop ((k + 1) * 5 + (l.drop k).length * 5), ?_, ?_⟩
 ·have e1 : (cur.take ((k + 1) * 5)).length = (k + 1) * 5 := by rw [List.length_take]; omega
  have e2 : (cur.take ((k + 1) * 5) ++ rows (l.drop k) ++ cur.drop ((k + 1) * 5 + (l.drop k).length * 5)).take (k * 5) = rows (l.take k) := by
   rw [List.append_assoc, List.take_append_of_le_length (by rw [e1]; omega), List.take_take, Nat.min_eq_left (by omega), h1]
  have e3 : (cur.take ((k + 1) * 5) ++ rows (l.drop k) ++ cur.drop ((k + 1) * 5 + (l.drop k).length * 5)).drop (k * 5 + [x].length * 5) = rows (l.drop k) ++ cur.drop ((k + 1) * 5 + (l.drop k).length * 5) := by
   rw [List.append_assoc, List.drop_append, List.drop_of_length_le (by rw [e1]; simp; omega), e1, show k * 5 + [x].length * 5 - (k + 1) * 5 = 0 from by simp; omega]
   rfl
  rw [e2, e3, ins, rows_app]
  simp [rows, List.append_assoc]
 simp only [List.length_drop]; omega
set_option maxHeartbeats 4000000 in
theorem Insert_mid {w : World} {G cap X : Nat} {l : List Nd} {x : Nd} (h : Nr w G cap l) (k : Nat) (hk : k < l.length) (hroom : l.length + 1 ≤ cap) (hX : NdAt w X 0 x) (hne : X ≠ G) (hl : l.length ≤ 4000) (hfr : w.heap[X]? = some (.cells (ndC x).toArray TN (0, 0))) :
  Calls Tryz.prog 125 #[.slice (some ⟨G, 0, none⟩) l.length cap, .int .i64 (k : Int), .slice (some ⟨X, 0, none⟩) 1 1] w fun e w' => e = .returned (.slice (some ⟨G, 0, none⟩) (l.length + 1) cap) ∧ Nr w' G cap (ins l k x) ∧ Fp (fun j => j = G) w w' := by
 have hm := h.most
 unfold maxLen at hm
 obtain ⟨n, hn⟩ : ∃ n, n = l.length := ⟨_, rfl⟩
 have q1 : ((k : Int) == (n : Int)) = false := beq_eq_false_iff_ne.2 (by omega)
 have q2 : ((cap : Int) < (n : Int) + 1) = False := eq_false (by omega)
 have hkn : k < n := by omega
 have hn6 : n ≤ 4000 := by omega
 have hcn : n + 1 ≤ cap := by omega
 have wk : IntKind.i64.wrap ((k : Int) + 1) = ((k + 1 : Nat) : Int) := by rw [IntKind.wrap_i64]; omega
 have r1 : (cap = k + 1) = False := eq_false (by omega)
 have r2 : (cap = k) = False := eq_false (by omega)
 have r3 : (((k + 1 : Nat) : Int) ≤ (n : Int) + 1) = True := eq_true (by omega)
 have r4 : (k ≤ n) = True := eq_true (by omega)
 have r5 : ((0 : Int) ≤ ((k + 1 : Nat) : Int)) = True := eq_true (by omega)
 have r7 : ((k : Int) ≤ (n : Int) + 1) = True := eq_true (by omega)
 have r6 : ((0 : Int) ≤ (k : Int) + 1) = True := eq_true (by omega)
 have e5 : n + 1 - (k + 1) = n - k := by omega
 obtain ⟨rest, hgr, hrl⟩ := h.ex
 have hd : Nr w.drew G cap l := h.keep ((Fp.refl Non w).drew) id
 have hlc : (rows l ++ rest).length = cap * 5 := by rw [List.length_append, rows_len]; omega
 have hc1 : ∀ ty, ∃ v' w', (Builtin.copy_ #[TL, TL] ty #[.slice (some ⟨G, (k + 1) * 5, none⟩) (n - k) (cap - (k + 1)), .slice (some ⟨G, k * 5, none⟩) (n + 1 - k) (cap - k)]).run Tryz.prog w.drew = .ok v' w' ∧ CopR G cap ((rows l ++ rest).take ((k + 1) * 5) ++ rows (l.drop k) ++ (rows l ++ rest).drop ((k + 1) * 5 + (l.drop k).length * 5)) w.drew w' := fun ty =>
  copy_at (w := w.drew) hgr hlc ty ((k + 1) * 5) (n - k) (cap - (k + 1)) ⟨G, k * 5, none⟩ (n + 1 - k) (cap - k) (l.drop k) (by rw [List.length_drop, ← hn]; simp only [Nat.min_def]; split <;> omega) (hd.src k) (by rw [List.length_drop]; omega)
 have HC1 := zI hc1
 have HX := zI (yI hX hne)
 have HX2 := zI (yI (show (rows l ++ rest).take (k * 5) = rows (l.take k) by rw [List.take_append_of_le_length (by rw [rows_len]; omega), rows_take]) (show (l.length + 1) * 5 ≤ (rows l ++ rest).length by rw [hlc]; omega))
 have HX3 := zI (yI hlc h.most)
 have hov : ∀ o lb cb, (callFunc 163 #[.slice (some ⟨X, 0, none⟩) 1 1, .slice (some ⟨G, o, none⟩) lb cb]).run Tryz.prog w = .ok (.value (.bool false)) w := fun o lb cb => by
  obtain ⟨r, hg, hr⟩ := h.ex
  rw [run_callFunc_extern Tryz.func163 (by kernel_rfl) (by kernel_rfl) (by kernel_rfl) (e := Extern.SlicesOverlaps.overlaps #[TL, TL] #[4]) (by kernel_rfl),
   Lib.run_overlaps_apart w TL 4 TN Tryz.underlying22 5 szN ⟨X, 0, none⟩ ⟨G, o, none⟩ 1 1 lb cb hne TN TN 5 (cap * 5) (by simp [World.shape?, hfr, ndC]) (by simp [World.shape?, hg, rows_len]; omega) (by omega) (by simp [World.frozen?, hfr]) (by simp [World.frozen?, hfr])]
  rfl
 rw [← hn]
 have HN := zI hn
 clear hn
 go_enter Tryz.func125, Tryz.ntmps125
 clear h hX hfr hc1 hd hlc hgr hrl
 go_wp2_with (simp only [hov])
 go_region_law ((refine step_copy rfl _ _ TL TL rfl (.slice (some ⟨G, (k + 1) * 5, none⟩) (n - k) (cap - (k + 1))) (.slice (some ⟨G, k * 5, none⟩) (n + 1 - k) (cap - k)) (by simp [Act.eval, Act.put]) (by simp [Act.eval, Act.put]) (fun _ w' => CopR G cap _ w.drew w') (HC1.out _) ?_; intro v1 w1 hR1))
 have hX1 : NdAt w1 X 0 x := (HX.out.1.keep ((Fp.refl Non w).drew) id).keep hR1.fp HX.out.2
 have hc2 := fun ty => copy_at hR1.hp hR1.len ty (k * 5) (n + 1 - k) (cap - k) ⟨X, 0, none⟩ 1 1 [x] (by simp only [Nat.min_def, List.length_cons, List.length_nil]; split <;> omega) (fun i hi j v hv => by
  have hi0 : i = 0 := by simp at hi; omega
  subst hi0
  have := hX1.get j v hv
  rwa [show 0 * 5 + j = j from by omega]) (by simp; omega)
 have HC2 := zI hc2
 have HF1 := zI (((Fp.refl Non w).drew.any (S := fun j => j = G)).same hR1.fp)
 clear hR1 hX1 hc2
 go_wp2_with fail
 obtain ⟨v2, w2, hr, hR2⟩ := HC2.out 3
 rw [hr]
 simp only [Result.andThen]
 rw [Oper.upon_value]
 clear hr
 obtain ⟨rest2, he, hl2⟩ := ins_cells l k (by have := HN.out; omega) x (rows l ++ rest) HX2.out.1 HX2.out.2
 have hrow : Nr w2 G cap (ins l k x) := by
  refine ⟨⟨rest2, ?_, ?_⟩, ?_, HX3.out.2⟩
  ·have := hR2.hp; rw [he] at this; exact this
  ·rw [ins_length]; have := HX3.out.1; omega
  rw [ins_length]; have := HN.out; omega
 have HR := zI (yI hrow (HF1.out.same hR2.fp))
 clear hR2 he hl2 hrow
 go_wp2
 go_ret
 exact ⟨rfl, HR.out.1, HR.out.2⟩
structure InsR (w : World) (G n : Nat) (l : List Nd) (v' : Value) (w' : World) : Prop where
 ex : ∃ G' cap', v' = .slice (some ⟨G', 0, none⟩) n cap' ∧ Nr w' G' cap' l ∧ (G' = G ∨ w.heap.size ≤ G') ∧ Fp (fun j => j = G) w w'
set_option maxHeartbeats 2000000 in
theorem Insert_end {w : World} {G cap X : Nat} {l : List Nd} {x : Nd} (h : Nr w G cap l) (hX : NdAt w X 0 x) (hl : l.length ≤ 4000) (h0 : 0 < l.length) :
  Calls Tryz.prog 125 #[.slice (some ⟨G, 0, none⟩) l.length cap, .int .i64 (l.length : Int), .slice (some ⟨X, 0, none⟩) 1 1] w fun e w' => ∃ v', e = .returned v' ∧ InsR w G (l.length + 1) (l ++ [x]) v' w' := by
 have hap : ∀ ty, ∃ v' w', (Builtin.append_ #[TL, TL] ty #[.slice (some ⟨G, 0, none⟩) l.length cap, .slice (some ⟨X, 0, none⟩) 1 1]).run Tryz.prog w = .ok v' w' ∧ InsR w G (l.length + 1) (l ++ [x]) v' w' := fun ty => by
  obtain ⟨G', cap', w', hr, h1, _, h2, h3⟩ := app_nodes w 0 _ l [x] ty X 0 1 1 (h.owns (Nat.zero_le _)) rfl (fun i hi => by
   have hi0 : i = 0 := by simp at hi; omega
   subst hi0; exact hX) (by simp; omega) (Nat.zero_le _) (by omega)
  refine ⟨_, w', hr, ⟨G', cap', rfl, h1, ?_, (Fp.refl _ w).grown h2 (fun k hk => .inl (by simp [Value.ownBlock] at hk; exact hk.symm))⟩⟩
  rcases h3 with h3 | h3
  ·left; simp [Value.ownBlock] at h3; exact h3.symm
  exact .inr h3
 have hm := h.most
 have hr := h.room
 unfold maxLen at hm
 generalize l.length = n at *
 have HA := zI hap
 have hn1 : (0 : Int) ≤ (n : Int) := by omega
 clear hap h hX
 go_enter Tryz.func125, Tryz.ntmps125
 go_wp2_with (at_builtin; go_must (refine wpList_app rfl _ _ _ _ rfl _ _ rfl rfl (InsR w G (n + 1) (l ++ [x])) (HA.out TL) ?_))
 all_goals
  intro v2 w2 hR2
  have HR := zI hR2
  obtain ⟨G', cap', rfl, _⟩ := hR2.ex
  clear hR2
  go_wp2
  go_ret
  exact ⟨_, rfl, HR.out⟩
structure ZerR (w : World) (n gc : Nat) (W1 : World) (v' : Value) (w' : World) : Prop where
 v : v' = .slice (some ⟨w.heap.size, 0, none⟩) (n + 1) gc
 w : w' = W1
theorem zer {w W1 : World} {n gc k G cap : Nat} {ty : TypeId} (h : ∀ ty, (Builtin.append_ #[TL, 3] ty #[.slice (some ⟨G, 0, none⟩) k cap, .int .i64 ((n + 1 - k : Nat) : Int)]).run Tryz.prog w = .ok (.slice (some ⟨w.heap.size, 0, none⟩) (n + 1) gc) W1) :
  ∃ v' w', (Builtin.append_ #[TL, 3] ty #[.slice (some ⟨G, 0, none⟩) k cap, .int .i64 ((n + 1 - k : Nat) : Int)]).run Tryz.prog w = .ok v' w' ∧ ZerR w n gc W1 v' w' := ⟨_, _, h ty, rfl, rfl⟩
theorem grow_cells (l : List Nd) (k : Nat) (hk : k ≤ l.length) (x : Nd) (cur : List Value) (h1 : cur.take (k * 5) = rows (l.take k)) (h2 : (l.length + 1) * 5 ≤ cur.length) :
  ∃ rest, ((cur.take (k * 5) ++ rows [x] ++ cur.drop (k * 5 + [x].length * 5)).take ((k + 1) * 5) ++ rows (l.drop k) ++ (cur.take (k * 5) ++ rows [x] ++ cur.drop (k * 5 + [x].length * 5)).drop ((k + 1) * 5 + (l.drop k).length * 5)) = rows (ins l k x) ++ rest ∧
   (l.length + 1) * 5 + rest.length = cur.length := by
 have e0 : (rows (l.take k) ++ rows [x]).length = (k + 1) * 5 := by rw [List.length_append, rows_len, rows_len, List.length_take]; simp; omega
 refine ⟨(cur.take (k * 5) ++ rows [x] ++ cur.drop (k * 5 + [x].length * 5)).drop ((k + 1) * 5 + (l.drop k).length * 5), ?_, ?_⟩
 ·rw [h1]
  rw [List.take_append_of_le_length (by rw [e0]; omega), List.take_of_length_le (by rw [e0]; omega)]
  congr 1
  rw [ins, rows_app]
  simp [rows, List.append_assoc]
 rw [h1, List.length_drop, List.length_append, e0, List.length_drop, List.length_drop]
 simp; omega
set_option maxHeartbeats 4000000 in
theorem Insert_grow {w : World} {G cap X : Nat} {l : List Nd} {x : Nd} (h : Nr w G cap l) (k : Nat) (hk : k < l.length) (hroom : cap < l.length + 1) (hX : NdAt w X 0 x) (hl : l.length ≤ 4000) :
  Calls Tryz.prog 125 #[.slice (some ⟨G, 0, none⟩) l.length cap, .int .i64 (k : Int), .slice (some ⟨X, 0, none⟩) 1 1] w fun e w' => ∃ v', e = .returned v' ∧ InsR w G (l.length + 1) (ins l k x) v' w' := by
 have hm := h.most
 have hcr := h.room
 unfold maxLen at hm
 obtain ⟨n, hn⟩ : ∃ n, n = l.length := ⟨_, rfl⟩
 obtain ⟨i0, hi0, hz0, hzs, hzb⟩ := info_parts Tryz.infoN
 have hold : (Builtin.firstCells i0.size k (.slice (some ⟨G, 0, none⟩) k cap)).run Tryz.prog w.drew = .ok (rows (l.take k)).toArray w.drew := by
  rw [hzs]
  refine run_firstCells_some w.drew 5 k ⟨G, 0, none⟩ k cap (rows (l.take k)) (by rw [rows_len, List.length_take]; omega) (fun j v hj => ?_)
  have hj5 : j < k * 5 := by have := (List.getElem?_eq_some_iff.1 hj).1; rw [rows_len, List.length_take] at this; omega
  have hd : j / 5 < (l.take k).length := by rw [List.length_take]; omega
  have e : j / 5 * 5 + j % 5 = j := by omega
  rw [← e, rows_get _ (j / 5) (j % 5) hd (by omega), List.getElem_take] at hj
  have := h.cell (j / 5) (j % 5) (by omega) (by omega)
  rw [e, hj] at this
  rw [Addr.add_lit, Nat.zero_add]
  exact this
 have hrz : ∀ ty, _ := fun ty => Lib.run_append_grow_zeros w TL 3 ty TN i0 _ .i64 .i64 Tryz.underlying22 Tryz.underlying3 hi0 hz0 (some ⟨G, 0, none⟩) k cap (rows (l.take k)) hold (n + 1 - k) (by omega) (by omega) (by omega) (by omega) (by rw [hzb]; omega) (by rw [hzb]; exact growslice_fits (by omega) (by omega))
 rw [show k + (n + 1 - k) = n + 1 from by omega] at hrz
 obtain ⟨gc, hgc⟩ : ∃ gc, gc = grownCap w (n + 1) cap TN := ⟨_, rfl⟩
 have hgl : n + 1 ≤ gc := by rw [hgc]; exact grownCap_ge w (n + 1) cap TN
 have hgm : gc ≤ maxLen := by rw [hgc]; exact grownCap_le_maxLen w (n + 1) cap TN (by unfold maxLen; omega)
 rw [← hgc] at hrz
 obtain ⟨cur, hcur⟩ : ∃ cur : List Value, cur = ((rows (l.take k)).toArray ++ Builtin.zeroCells (Value.cells (.agg #[.string ⟨#[]⟩, .string ⟨#[]⟩, .int .i64 0, .int .i64 0, .int .i64 0])) (n + 1 - k) ++ Builtin.zeroCells (Value.cells (.agg #[.string ⟨#[]⟩, .string ⟨#[]⟩, .int .i64 0, .int .i64 0, .int .i64 0])) (gc - (n + 1))).toList := ⟨_, rfl⟩
 have hcl : cur.length = gc * 5 := by
  rw [hcur, Array.length_toList, Array.size_append, Array.size_append, size_zeroCells, size_zeroCells, List.size_toArray, rows_len, List.length_take]
  show min k l.length * 5 + (n + 1 - k) * 5 + (gc - (n + 1)) * 5 = gc * 5
  omega
 have hct : cur.take (k * 5) = rows (l.take k) := by
  rw [hcur, Array.toList_append, Array.toList_append, List.append_assoc, List.take_append_of_le_length (by simp [rows_len]; omega), List.take_of_length_le (by simp [rows_len]; omega)]
 obtain ⟨W1, hW1⟩ : ∃ W1, W1 = w.drew.alloc (.cells cur.toArray TN) := ⟨_, rfl⟩
 have hrz2 : ∀ ty, (Builtin.append_ #[TL, 3] ty #[.slice (some ⟨G, 0, none⟩) k cap, .int .i64 ((n + 1 - k : Nat) : Int)]).run Tryz.prog w = .ok (.slice (some ⟨w.heap.size, 0, none⟩) (n + 1) gc) W1 := fun ty => by
  rw [hW1, hcur]; exact hrz ty
 have hf1 : Fp Non w W1 := by rw [hW1]; exact ((Fp.refl Non w).drew).alloc _
 have hg1 : W1.heap[w.heap.size]? = some (.cells cur.toArray TN (0, 0)) := by rw [hW1]; exact heap_alloc_new w.drew _
 have hX1 := hX.keep hf1 id
 have h1 := h.keep hf1 id
 have hGlt := h.lt
 have hc1 : ∀ ty, ∃ v' w', (Builtin.copy_ #[TL, TL] ty #[.slice (some ⟨w.heap.size, k * 5, none⟩) (n + 1 - k) (gc - k), .slice (some ⟨X, 0, none⟩) 1 1]).run Tryz.prog W1 = .ok v' w' ∧ CopR w.heap.size gc (cur.take (k * 5) ++ rows [x] ++ cur.drop (k * 5 + [x].length * 5)) W1 w' := fun ty =>
  copy_at hg1 hcl ty (k * 5) (n + 1 - k) (gc - k) ⟨X, 0, none⟩ 1 1 [x] (by simp only [Nat.min_def, List.length_cons, List.length_nil]; split <;> omega) (fun i hi j v hv => by
   have hi0 : i = 0 := by simp at hi; omega
   subst hi0
   have := hX1.get j v hv
   rwa [show 0 * 5 + j = j from by omega]) (by simp; omega)
 have q1 : ((k : Int) == (n : Int)) = false := beq_eq_false_iff_ne.2 (by omega)
 have q2 : ((cap : Int) < (n : Int) + 1) = True := eq_true (by omega)
 have hkn : k < n := by omega
 have hn6 : n ≤ 4000 := by omega
 have hcn : cap = n := by omega
 have wk : IntKind.i64.wrap ((k : Int) + 1) = ((k + 1 : Nat) : Int) := by rw [IntKind.wrap_i64]; omega
 have wn : (n : Int) + 1 - (k : Int) = ((n + 1 - k : Nat) : Int) := by omega
 have r1 : (gc = k + 1) = False := eq_false (by omega)
 have r2 : (gc = k) = False := eq_false (by omega)
 have r8 : (cap = k) = False := eq_false (by omega)
 have r3 : (((k + 1 : Nat) : Int) ≤ (n : Int) + 1) = True := eq_true (by omega)
 have r4 : (k ≤ n) = True := eq_true (by omega)
 have r5 : ((0 : Int) ≤ ((k + 1 : Nat) : Int)) = True := eq_true (by omega)
 have r7 : ((k : Int) ≤ (n : Int) + 1) = True := eq_true (by omega)
 have r6 : ((0 : Int) ≤ (k : Int) + 1) = True := eq_true (by omega)
 have r9 : (k ≤ cap) = True := eq_true (by omega)
 have r10 : ((k : Int) ≤ (cap : Int)) = True := eq_true (by omega)
 have e5 : n + 1 - (k + 1) = n - k := by omega
 rw [← hn]
 have HZ := zI hrz2
 have HC1 := zI hc1
 have HX := zI (yI hn (yI h1 (yI hcl (yI hct (yI hgm (yI hgl (yI hf1 hGlt)))))))
 unfold maxLen at hgm
 clear hrz2 hc1 hrz hold hn h1 hX1 hg1 hf1 hW1 hcl hct hcur hgc hX h hGlt hcn hk hroom hl hcr hi0 hz0 hzs hzb
 go_enter Tryz.func125, Tryz.ntmps125
 go_wp2_with (at_builtin; go_must (refine wpList_app rfl _ _ _ _ rfl _ _ rfl rfl (fun v' w' => ZerR w n gc W1 v' w') (zer HZ.out) ?_))
 intro v2 w2 hR2
 obtain ⟨rfl, rfl⟩ := hR2
 go_wp2_with fail
 obtain ⟨v3, w3, hr, hR3⟩ := HC1.out 3
 rw [hr]
 simp only [Result.andThen]
 rw [Oper.upon_value]
 clear hr
 have h3 : Nr w3 G cap l := HX.out.2.1.keep hR3.fp (fun e => by have := HX.out.2.2.2.2.2.2.2; omega)
 have hd3 : Nr w3.drew G cap l := h3.keep ((Fp.refl Non w3).drew) id
 have hl3 := HX.out.1
 have hc2 : ∀ ty, ∃ v' w', (Builtin.copy_ #[TL, TL] ty #[.slice (some ⟨w.heap.size, (k + 1) * 5, none⟩) (n - k) (gc - (k + 1)), .slice (some ⟨G, k * 5, none⟩) (n - k) (cap - k)]).run Tryz.prog w3.drew = .ok v' w' ∧ CopR w.heap.size gc _ w3.drew w' := fun ty =>
  copy_at (w := w3.drew) hR3.hp hR3.len ty ((k + 1) * 5) (n - k) (gc - (k + 1)) ⟨G, k * 5, none⟩ (n - k) (cap - k) (l.drop k) (by rw [List.length_drop, ← hl3]; simp only [Nat.min_def]; split <;> omega) (hd3.src k) (by rw [List.length_drop]; omega)
 have HC2 := zI hc2
 have HF3 := zI hR3.fp
 clear hR3 h3 hd3 hl3 hc2
 go_wp2_with fail
 go_region_law ((refine step_copy rfl _ _ TL TL rfl (.slice (some ⟨w.heap.size, (k + 1) * 5, none⟩) (n - k) (gc - (k + 1))) (.slice (some ⟨G, k * 5, none⟩) (n - k) (cap - k)) (by simp [Act.eval, Act.put]) (by simp [Act.eval, Act.put]) (fun _ w' => CopR w.heap.size gc _ w3.drew w') (HC2.out _) ?_; intro v4 w4 hR4))
 obtain ⟨rest2, he, hl2⟩ := grow_cells l k (by have := HX.out.1; omega) x cur HX.out.2.2.2.1 (by have h1 := HX.out.1; have h2 := HX.out.2.2.1; have h3 := HX.out.2.2.2.2.2.1; omega)
 have hrow : Nr w4 w.heap.size gc (ins l k x) := by
  refine ⟨⟨rest2, ?_, ?_⟩, ?_, HX.out.2.2.2.2.1⟩
  ·have := hR4.hp; rw [he] at this; exact this
  ·rw [ins_length]; have := HX.out.2.2.1; omega
  rw [ins_length]; have h1 := HX.out.1; have h3 := HX.out.2.2.2.2.2.1; omega
 have hfp : Fp (fun j => j = G) w w4 := (((HX.out.2.2.2.2.2.2.1.any (S := fun j => j = G)).trans HF3.out (fun k hk => .inr (by rw [hk]; exact Nat.le_refl _))).trans (((Fp.refl Non w3).drew.any (S := fun j => j = w.heap.size)).same hR4.fp) (fun k hk => .inr (by rw [hk]; exact Nat.le_refl _)))
 have HR := zI (yI hrow hfp)
 clear hR4 he hl2 hrow hfp
 go_wp2
 go_ret
 exact ⟨_, rfl, ⟨w.heap.size, gc, rfl, HR.out.1, .inr (Nat.le_refl _), HR.out.2⟩⟩
theorem Insert_c {w : World} {G cap X : Nat} {l : List Nd} {x : Nd} (h : Nr w G cap l) (k : Nat) (hk : k ≤ l.length) (hX : w.heap[X]? = some (.cells (ndC x).toArray TN (0, 0))) (hne : X ≠ G) (hl : l.length ≤ 4000) (h0 : 0 < l.length) :
  Calls Tryz.prog 125 #[.slice (some ⟨G, 0, none⟩) l.length cap, .int .i64 (k : Int), .slice (some ⟨X, 0, none⟩) 1 1] w fun e w' => ∃ v', e = .returned v' ∧ InsR w G (l.length + 1) (ins l k x) v' w' := by
 have hnd : NdAt w X 0 x := ⟨by rw [cell_of_row _ _ _ _ _ _ hX]; rfl, by rw [cell_of_row _ _ _ _ _ _ hX]; rfl, by rw [cell_of_row _ _ _ _ _ _ hX]; rfl, by rw [cell_of_row _ _ _ _ _ _ hX]; rfl, by rw [cell_of_row _ _ _ _ _ _ hX]; rfl⟩
 by_cases hkl : k < l.length
 ·by_cases hr : l.length + 1 ≤ cap
  ·refine (Insert_mid h k hkl hr hnd hne hl hX).mono ?_
   rintro e w' ⟨rfl, h1, h2⟩
   exact ⟨_, rfl, ⟨G, cap, rfl, h1, .inl rfl, h2⟩⟩
  exact Insert_grow h k hkl (by omega) hnd hl
 obtain rfl : k = l.length := by omega
 have e : ins l l.length x = l ++ [x] := by unfold ins; simp
 rw [e]
 exact Insert_end h hnd hl h0
theorem step_app {P : Program} {ops : Array Oper} {o : Oper} {a : Act} {w : World} {K : Act → World → Prop} {Q : Exit → Act → World → Prop} {E : Prop} (hgd : o.guard = none) (s x : Operand) (t u : TypeId)
  (ho : o.op = .call { callee := .builtin .append, args := #[s, x], argTypes := #[t, u] }) (v xv : Value) (hs : a.eval s = v) (hx : a.eval x = xv) (R : Value → World → Prop)
  (hr : ∃ v' w', (Builtin.append_ #[t, u] o.type #[v, xv]).run P w = .ok v' w' ∧ R v' w') (h : ∀ v' w', R v' w' → K (a.put o.dst v') w') :
  if Region.wanted o (yielded ops a.tmps) = true then Oper.wp P o a w K Q else E := by
 have hw : Region.wanted o (yielded ops a.tmps) = true := by simp [Region.wanted, hgd]
 rw [if_pos hw]
 obtain ⟨v', w', hr, h2⟩ := hr
 unfold Oper.wp execOp
 simp only [ho, resolve, invoke, builtin, Sem.run_bind, Sem.run_pure, Result.andThen_ok, List.map_toArray, List.map_cons, List.map_nil, hs, hx, hr]
 exact h v' w' h2
structure DelR (w : World) (G cap n : Nat) (l : List Nd) (v' : Value) (w' : World) : Prop where
 v : v' = .slice (some ⟨G, 0, none⟩) n cap
 row : Nr w' G cap l
 fp : Fp (fun j => j = G) w w'
theorem app_in {w : World} {G cap : Nat} {l m : List Nd} (h : Nr w G cap l) (k : Nat) (ty : TypeId) (a : Addr) (c : Nat) (hk : k + m.length ≤ l.length) (hm : ∀ i (h : i < m.length) j v, (ndC m[i])[j]? = some v → w.cell? (a.add (i * 5 + j)) = some v) :
  ∃ v' w', (Builtin.append_ #[TL, TL] ty #[.slice (some ⟨G, 0, none⟩) k cap, .slice (some a) m.length c]).run Tryz.prog w = .ok v' w' ∧ DelR w G cap (k + m.length) (l.take k ++ m) v' w' := by
 obtain ⟨i, hi, _, hs, _⟩ := info_parts Tryz.infoN
 obtain ⟨rest, hg, hrl⟩ := h.ex
 have hlc : (rows l ++ rest).length = cap * 5 := by rw [List.length_append, rows_len]; omega
 have hroom := h.room
 have hr := run_append_room (P := Tryz.prog) w TL ty TN i Tryz.underlying22 hi G k cap (rows l ++ rest).toArray hg a m.length c (rows m) (by rw [rows_len, hs]) (fun j v hv => by
  have hj : j < m.length * 5 := by rw [← rows_len]; exact (List.getElem?_eq_some_iff.1 hv).1
  have hd : j / 5 < m.length := by omega
  have e : j / 5 * 5 + j % 5 = j := by omega
  rw [← e, rows_get m (j / 5) (j % 5) hd (by omega)] at hv
  have := hm (j / 5) hd (j % 5) v hv
  rwa [e] at this) (rows_one m) (by omega) (by rw [hs, rows_len, List.size_toArray, hlc]; omega)
 refine ⟨_, _, hr, rfl, ⟨⟨(rows l ++ rest).drop (k * 5 + (rows m).length), ?_, ?_⟩, ?_, h.most⟩, fp_setRow w G _⟩
 ·have := setRow_heap w G _ (((rows l ++ rest).take (k * i.size)) ++ rows m ++ (rows l ++ rest).drop (k * i.size + (rows m).length)).toArray TN _ hg
  rw [hs] at this
  rw [hs]
  rw [this]
  congr 2
  rw [rows_app, List.take_append_of_le_length (by rw [rows_len]; omega), rows_take]
 ·rw [List.length_drop, hlc, rows_len, List.length_append, List.length_take]; omega
 rw [List.length_append, List.length_take]; omega
theorem clear_in {w : World} {G cap : Nat} {l : List Nd} (h : Nr w G cap l) (ty : TypeId) (n c : Nat) (h0 : 0 < n) (hn : l.length + n ≤ cap) :
  ∃ w', (Builtin.clear_ #[TL] ty #[.slice (some ⟨G, l.length * 5, none⟩) n c]).run Tryz.prog w = .ok (.tuple #[]) w' ∧ Nr w' G cap l ∧ Fp (fun j => j = G) w w' := by
 obtain ⟨rest, hg, hrl⟩ := h.ex
 have hlc : (rows l ++ rest).length = cap * 5 := by rw [List.length_append, rows_len]; omega
 obtain ⟨zs, hz, hr⟩ := run_clear_nodes w ty G (l.length * 5) n c (rows l ++ rest) hg (by rw [hlc]; omega) h0
 refine ⟨_, hr, ⟨⟨zs ++ (rows l ++ rest).drop (l.length * 5 + n * 5), ?_, ?_⟩, h.room, h.most⟩, fp_setRow w G _⟩
 ·rw [setRow_heap w G _ _ TN _ hg]
  congr 2
  rw [← rows_len l, List.take_left, List.append_assoc]
 rw [List.length_append, List.length_drop, hz, hlc]; omega
set_option maxHeartbeats 4000000 in
theorem Delete_c {w : World} {G cap : Nat} {l : List Nd} (h : Nr w G cap l) (k : Nat) (hk : k < l.length) (hl : l.length ≤ 4000) :
  Calls Tryz.prog 157 #[.slice (some ⟨G, 0, none⟩) l.length cap, .int .i64 (k : Int), .int .i64 ((k : Int) + 1)] w fun e w' => e = .returned (.slice (some ⟨G, 0, none⟩) (l.length - 1) cap) ∧ Nr w' G cap (l.eraseIdx k) ∧ Fp (fun j => j = G) w w' := by
 have hm := h.most
 have hcr := h.room
 unfold maxLen at hm
 obtain ⟨n, hn⟩ : ∃ n, n = l.length := ⟨_, rfl⟩
 have hdd : Nr w.drew G cap l := h.keep ((Fp.refl Non w).drew) id
 have he : l.take k ++ l.drop (k + 1) = l.eraseIdx k := (List.eraseIdx_eq_take_drop_succ ..).symm
 obtain ⟨a, ha⟩ : ∃ a : Addr, a = (if cap = k + 1 then ⟨G, 0, none⟩ else ⟨G, (k + 1) * 5, none⟩) := ⟨_, rfl⟩
 have hap : ∀ ty c, ∃ v' w', (Builtin.append_ #[TL, TL] ty #[.slice (some ⟨G, 0, none⟩) k cap, .slice (some a) (n - (k + 1)) c]).run Tryz.prog w.drew = .ok v' w' ∧ DelR w.drew G cap (n - 1) (l.eraseIdx k) v' w' := fun ty c => by
  have := app_in (m := l.drop (k + 1)) hdd k ty a c (by rw [List.length_drop]; omega) (fun i hi j v hv => by
   rw [List.length_drop] at hi
   rw [ha, if_neg (by omega)]
   exact hdd.src (k + 1) i (by rw [List.length_drop]; omega) j v hv)
  rw [he, List.length_drop, ← hn, show k + (n - (k + 1)) = n - 1 from by omega] at this
  exact this
 have hel : (l.eraseIdx k).length = n - 1 := by rw [List.length_eraseIdx, if_pos hk, hn]
 have q1 : ((k : Int) == (k : Int) + 1) = false := beq_eq_false_iff_ne.2 (by omega)
 have hkn : k < n := by omega
 have hn6 : n ≤ 4000 := by omega
 have hcn : n ≤ cap := by omega
 have r1 : (k ≤ cap) = True := eq_true (by omega)
 have r2 : ((k : Int) ≤ (cap : Int)) = True := eq_true (by omega)
 have r3 : ((0 : Int) ≤ (k : Int) + 1) = True := eq_true (by omega)
 have r4 : ((k : Int) + 1 ≤ (n : Int)) = True := eq_true (by omega)
 have r5 : ((k : Int) + 1).toNat = k + 1 := by omega
 have r7 : (n - 1 ≤ n) = True := eq_true (by omega)
 have r8 : (cap = n - 1) = False := eq_false (by omega)
 have r10 : (n ≤ cap) = True := eq_true hcn
 have r11 : (((n - 1 : Nat) : Int) ≤ (n : Int)) = True := eq_true (by omega)
 have r12 : n - (n - 1) = 1 := by omega
 rw [← hn]
 have HX := zI (yI hn (yI hel (yI hcn hkn)))
 by_cases hc : cap = k + 1
 ·have r6 : (cap = k + 1) = True := eq_true hc
  rw [if_pos hc] at ha
  subst ha
  have HA := zI hap
  clear hap hdd he h hn hk hl hcr hel hc
  go_enter Tryz.func157, Tryz.ntmps157
  go_wp2_with fail
  go_region_law ((refine step_app rfl _ _ TL TL rfl (.slice (some ⟨G, 0, none⟩) k cap) (.slice (some ⟨G, 0, none⟩) (n - (k + 1)) (cap - (k + 1))) (by simp [Act.eval, Act.put]) (by simp [Act.eval, Act.put]) (DelR w.drew G cap (n - 1) (l.eraseIdx k)) (HA.out _ _) ?_; intro v4 w4 hR4))
  obtain rfl := hR4.v
  have hcl := clear_in hR4.row 0 1 (cap - (n - 1)) (by omega) (by have := HX.out; omega)
  rw [HX.out.2.1] at hcl
  have HCL := zI hcl
  have HF := zI (((Fp.refl Non w).drew.any (S := fun j => j = G)).same hR4.fp)
  clear hR4 hcl
  go_wp2_with fail
  obtain ⟨w5, hr, hrow, hf5⟩ := HCL.out
  rw [hr]
  simp only [Result.andThen]
  rw [Oper.upon_value]
  have HR := zI (yI hrow (HF.out.same hf5))
  clear hr hrow hf5
  go_wp2
  go_ret
  exact ⟨rfl, HR.out.1, HR.out.2⟩
 have r6 : (cap = k + 1) = False := eq_false hc
 rw [if_neg hc] at ha
 subst ha
 have HA := zI hap
 clear hap hdd he h hn hk hl hcr hel hc
 go_enter Tryz.func157, Tryz.ntmps157
 go_wp2_with fail
 go_region_law ((refine step_app rfl _ _ TL TL rfl (.slice (some ⟨G, 0, none⟩) k cap) (.slice (some ⟨G, (k + 1) * 5, none⟩) (n - (k + 1)) (cap - (k + 1))) (by simp [Act.eval, Act.put]) (by simp [Act.eval, Act.put]) (DelR w.drew G cap (n - 1) (l.eraseIdx k)) (HA.out _ _) ?_; intro v4 w4 hR4))
 obtain rfl := hR4.v
 have hcl := clear_in hR4.row 0 1 (cap - (n - 1)) (by omega) (by have := HX.out; omega)
 rw [HX.out.2.1] at hcl
 have HCL := zI hcl
 have HF := zI (((Fp.refl Non w).drew.any (S := fun j => j = G)).same hR4.fp)
 clear hR4 hcl
 go_wp2_with fail
 obtain ⟨w5, hr, hrow, hf5⟩ := HCL.out
 rw [hr]
 simp only [Result.andThen]
 rw [Oper.upon_value]
 have HR := zI (yI hrow (HF.out.same hf5))
 clear hr hrow hf5
 go_wp2
 go_ret
 exact ⟨rfl, HR.out.1, HR.out.2⟩
structure DfM (S : Nat → Prop) (q : Nd → Bool) (l : List Nd) (G cap : Nat) (w : World) (i j : Nat) (wr : World) : Prop where
 ex : ∃ m, Nr wr G cap m ∧ m.length = l.length ∧ m.take i = (l.take j).filter (fun n => !q n) ∧ m.drop j = l.drop j
 ij : i < j
 fp : Fp (fun k => k = G) w wr
theorem DfM.keep {S : Nat → Prop} {q : Nd → Bool} {l : List Nd} {G cap i j : Nat} {w wr w' : World} (h : DfM S q l G cap w i j wr) (f : Fp Non wr w') : DfM S q l G cap w i j w' := by
 obtain ⟨m, h1, h2⟩ := h.ex
 exact ⟨⟨m, h1.keep f id, h2⟩, h.ij, h.fp.then f⟩
theorem take_step (l : List Nd) (j : Nat) (hj : j < l.length) (p : Nd → Bool) : (l.take (j + 1)).filter p = (l.take j).filter p ++ if p l[j] = true then [l[j]] else [] := by
 rw [List.take_succ_eq_append_getElem hj, List.filter_append]
 congr 1
 by_cases h : p l[j] = true <;> simp [h]
theorem DfM.gone {S : Nat → Prop} {q : Nd → Bool} {l : List Nd} {G cap i j : Nat} {w wr : World} (h : DfM S q l G cap w i j wr) (hj : j < l.length) (hq : q l[j] = true) : DfM S q l G cap w i (j + 1) wr := by
 obtain ⟨m, h1, h2, h3, h4⟩ := h.ex
 refine ⟨⟨m, h1, h2, ?_, ?_⟩, Nat.lt_succ_of_lt h.ij, h.fp⟩
 ·rw [take_step l j hj, h3]; simp [hq]
 have := congrArg (List.drop 1) h4
 rwa [List.drop_drop, List.drop_drop] at this
theorem DfM.stays {S : Nat → Prop} {q : Nd → Bool} {l : List Nd} {G cap i j : Nat} {w wr w' : World} (h : DfM S q l G cap w i j wr) (hj : j < l.length) (hq : q l[j] = false)
  (hs : ∀ m, Nr wr G cap m → i < m.length → Nr w' G cap (m.set i l[j])) (f : Fp (fun k => k = G) wr w') : DfM S q l G cap w (i + 1) (j + 1) w' := by
 obtain ⟨m, h1, h2, h3, h4⟩ := h.ex
 have hi := h.ij
 refine ⟨⟨m.set i l[j], hs m h1 (by omega), by rw [List.length_set, h2], ?_, ?_⟩, by omega, h.fp.same f⟩
 ·rw [take_step l j hj, ← h3]
  simp only [hq, Bool.not_false, if_true]
  rw [List.take_succ_eq_append_getElem (by rw [List.length_set]; omega), List.getElem_set_self, List.take_set_of_le (Nat.le_refl _)]
 rw [List.drop_set_of_lt (by omega)]
 have := congrArg (List.drop 1) h4
 rwa [List.drop_drop, List.drop_drop] at this
theorem DfM.cell {S : Nat → Prop} {q : Nd → Bool} {l : List Nd} {G cap i j : Nat} {w wr : World} (h : DfM S q l G cap w i j wr) (hj : j < l.length) : NdAt wr G (0 + j * 5) l[j] := by
 obtain ⟨m, h1, h2, h3, h4⟩ := h.ex
 have hm : j < m.length := by omega
 have e : m[j] = l[j] := by
  have h5 : (m.drop j)[0]? = (l.drop j)[0]? := by rw [h4]
  rw [List.getElem?_drop, List.getElem?_drop, List.getElem?_eq_getElem (by omega), List.getElem?_eq_getElem (by omega)] at h5
  exact Option.some.inj h5
 rw [← e]; exact h1.nd j hm
theorem DfM.there {S : Nat → Prop} {q : Nd → Bool} {l : List Nd} {G cap i j : Nat} {w wr : World} (h : DfM S q l G cap w i j wr) (hj : j ≤ l.length) : ∃ y, NdAt wr G (i * 5) y := by
 obtain ⟨m, h1, h2, h3, h4⟩ := h.ex
 have hi := h.ij
 have := h1.nd i (by omega)
 rw [Nat.zero_add] at this
 exact ⟨_, this⟩
theorem DfM.frozen {S : Nat → Prop} {q : Nd → Bool} {l : List Nd} {G cap i j : Nat} {w wr : World} (h : DfM S q l G cap w i j wr) (o : Nat) : wr.frozen? ⟨G, o, none⟩ = false := by
 obtain ⟨m, h1, _⟩ := h.ex; exact h1.frozen o
theorem rows_set (l : List Nd) (i : Nat) (hi : i < l.length) (x : Nd) (rest : List Value) : (((((rows l ++ rest).set (i * 5) (strV x.path)).set (i * 5 + 1) (strV x.data)).set (i * 5 + 2) (.int .i64 x.ver)).set (i * 5 + 3) (.int .i64 x.turn)).set (i * 5 + 4) (.int .i64 x.own) = rows (l.set i x) ++ rest := by
 induction l generalizing i with
 | nil => simp at hi
 | cons a l ih =>
  cases i with
  | zero => rw [List.set_cons_zero, rows_cons, rows_cons]; simp [ndC]
  | succ i => ?_
  rw [List.set_cons_succ, rows_cons, rows_cons, List.append_assoc, List.append_assoc, ← ih i (by simpa using hi)]
  simp only [show (i + 1) * 5 = 5 + i * 5 from by omega, show ∀ j, 5 + i * 5 + j = 5 + (i * 5 + j) from fun j => by omega]
  have e : ∀ (j : Nat) (v : Value) (m : List Value), (ndC a ++ m).set (5 + j) v = ndC a ++ m.set j v := fun j v m => by
   rw [List.set_append_right _ _ (by rw [ndC_len]; omega), ndC_len, Nat.add_sub_cancel_left]
  rw [e, e, e, e, e]
theorem Nr.put {w : World} {G cap : Nat} {l : List Nd} (h : Nr w G cap l) (i : Nat) (hi : i < l.length) (x : Nd) :
  Nr (((((w.setCell ⟨G, i * 5, none⟩ (strV x.path)).setCell ⟨G, i * 5 + 1, none⟩ (strV x.data)).setCell ⟨G, i * 5 + 2, none⟩ (.int .i64 x.ver)).setCell ⟨G, i * 5 + 3, none⟩ (.int .i64 x.turn)).setCell ⟨G, i * 5 + 4, none⟩ (.int .i64 x.own)) G cap (l.set i x) := by
 obtain ⟨rest, hg, hrl⟩ := h.ex
 have h1 := heap_setCell_same w G (i * 5) _ TN (strV x.path) hg
 have h2 := heap_setCell_same _ G (i * 5 + 1) _ TN (strV x.data) h1
 have h3 := heap_setCell_same _ G (i * 5 + 2) _ TN (.int .i64 x.ver) h2
 have h4 := heap_setCell_same _ G (i * 5 + 3) _ TN (.int .i64 x.turn) h3
 have h5 := heap_setCell_same _ G (i * 5 + 4) _ TN (.int .i64 x.own) h4
 refine ⟨⟨rest, ?_, by rw [List.length_set]; exact hrl⟩, by rw [List.length_set]; exact h.room, h.most⟩
 rw [h5, ← rows_set l i hi x rest]
 simp [List.setIfInBounds_toArray]
theorem fp_put {S : Nat → Prop} {a w : World} (f : Fp S a w) {b : Nat} (hb : S b ∨ a.heap.size ≤ b) (o : Nat) (v0 v1 v2 v3 v4 : Value) :
  Fp S a (((((w.setCell ⟨b, o, none⟩ v0).setCell ⟨b, o + 1, none⟩ v1).setCell ⟨b, o + 2, none⟩ v2).setCell ⟨b, o + 3, none⟩ v3).setCell ⟨b, o + 4, none⟩ v4) :=
 ((((f.setCell (p := ⟨b, o, none⟩) hb v0).setCell (p := ⟨b, o + 1, none⟩) hb v1).setCell (p := ⟨b, o + 2, none⟩) hb v2).setCell (p := ⟨b, o + 3, none⟩) hb v3).setCell (p := ⟨b, o + 4, none⟩) hb v4
theorem none_filter {q : Nd → Bool} {l : List Nd} (h : ∀ n ∈ l, q n = false) : l.filter (fun n => !q n) = l := by
 rw [List.filter_eq_self]; intro n hn; simp [h n hn]
theorem first_filter {q : Nd → Bool} {l : List Nd} {i : Nat} (hi : i < l.length) (hq : q l[i] = true) (h : ∀ j (hj : j < l.length), j < i → q l[j] = false) : (l.take (i + 1)).filter (fun n => !q n) = l.take i := by
 rw [take_step l i hi, hq, none_filter]
 ·simp
 intro n hn
 obtain ⟨j, hj, rfl⟩ := List.getElem_of_mem hn
 rw [List.length_take] at hj
 rw [List.getElem_take]; exact h j (by omega) (by omega)
theorem Nr.take {w : World} {G cap : Nat} {l : List Nd} (h : Nr w G cap l) (k : Nat) : Nr w G cap (l.take k) := by
 obtain ⟨rest, hg, hl⟩ := h.ex
 refine ⟨⟨rows (l.drop k) ++ rest, ?_, ?_⟩, by have := h.room; rw [List.length_take]; omega, h.most⟩
 ·rw [← List.append_assoc, ← rows_app, List.take_append_drop]; exact hg
 rw [List.length_append, rows_len, List.length_take, List.length_drop]; omega
structure DfR (w : World) (G cap : Nat) (l : List Nd) (v' : Value) (w' : World) : Prop where
 v : v' = .slice (some ⟨G, 0, none⟩) l.length cap
 row : Nr w' G cap l
 fp : Fp (fun k => k = G) w w'
set_option maxHeartbeats 8000000 in
theorem DeleteFunc_c {w : World} {G cap : Nat} {l : List Nd} {f : Value} {q : Nd → Bool} (h : Nr w G cap l) (hs : Sp l) (hq : Pd (fun k => k = G) w f q) (hl : l.length ≤ 4000) :
  Calls Tryz.prog 129 #[.slice (some ⟨G, 0, none⟩) l.length cap, f] w fun e w' => ∃ v', e = .returned v' ∧ DfR w G cap (l.filter (fun n => !q n)) v' w' := by
 have hm := h.most
 have hcr := h.room
 unfold maxLen at hm
 obtain ⟨n, hn⟩ : ∃ n, n = l.length := ⟨_, rfl⟩
 have hi := IndexFunc_c _ f l q w h.ns hs hq.non (by omega)
 obtain ⟨kf, fi, fc, rfl, hen, hcall⟩ := hq.ex
 have HI := zI hi
 have HX := zI (yI hn (yI hs (yI hcall h)))
 rw [← hn] at HI ⊢
 have hn6 : n ≤ 4000 := by omega
 have hcn : n ≤ cap := by omega
 clear hi hq hcall h hs hn hl hcr
 go_enter Tryz.func129, Tryz.ntmps129
 go_wp2_with fail
 refine HI.out.mono ?_
 rintro e w1 ⟨⟨z, rfl, hz⟩, hf1⟩
 rcases hz with ⟨rfl, hz⟩ | ⟨i, rfl, hil, hqi, hz⟩
 ·have HR : Hid (DfR w G cap (l.filter (fun n => !q n)) (.slice (some ⟨G, 0, none⟩) n cap) w1) := by
   rw [none_filter hz]
   exact ⟨by rw [HX.out.1], HX.out.2.2.2.keep hf1 id, hf1.any⟩
  clear hz hf1
  go_wp2
  go_ret
  exact ⟨_, rfl, HR.out⟩
 have H0 : Hid (DfM Non q l G cap w i (i + 1) w1) := ⟨⟨l, HX.out.2.2.2.keep hf1 id, rfl, (first_filter hil hqi hz).symm, rfl⟩, Nat.lt_succ_self i, hf1.any⟩
 have hin : i < n := by rw [HX.out.1]; exact hil
 have q1 : ((i : Int) == -1) = false := beq_eq_false_iff_ne.2 (by omega)
 clear hz hf1 hqi hil
 go_wp2_with fail
 go_loopw [5, 6] (fun a b wr => ∃ i j : Nat, j ≤ n ∧ i < n ∧ a = .int .i64 i ∧ b = .int .i64 j ∧ Hid (DfM Non q l G cap w i j wr)) (fun _ b _ => n - (RowKit.intOf b).toNat)
 case atStart => exact ⟨i, i + 1, by omega, hin, rfl, by go_num, H0⟩
 clear H0 hin q1
 obtain ⟨i, j, hj, hin, rfl, rfl, hR⟩ := hrel
 rename_i wr _
 by_cases hlt : j < n
 ·have hjl : j < l.length := by rw [← HX.out.1]; exact hlt
  have hnd := hR.out.cell hjl
  have hgone := fun w' (M : DfM Non q l G cap w i j w') => M.gone hjl
  have hstay := fun w' w'' (M : DfM Non q l G cap w i j w') => M.stays (w' := w'') hjl
  have hcc := fun w1 hf => HX.out.2.2.1 l[j] w1 (HX.out.2.1 _ (List.getElem_mem hjl)) hf
  obtain ⟨b, hb⟩ : ∃ b, q l[j] = b := ⟨_, rfl⟩
  rw [hb] at hcc hgone hstay
  clear hb
  generalize l[j] = x at *
  have hbx := NdAt.box wr x
  have c0 := hnd.c0; have c1 := hnd.c1; have c2 := hnd.c2; have c3 := hnd.c3; have c4 := hnd.c4
  unfold strV at c0 c1
  unfold ndV strV at hcc
  simp only [Nat.zero_add] at c0 c1 c2 c3 c4
  have q3 : ((j : Int) < (n : Int)) = True := eq_true (by omega)
  have q4 : (j < n) = True := eq_true hlt
  have HCC := zI hcc
  have HB := zI (yI hgone (yI hstay hbx))
  have HL := zI hlt
  clear hnd hcc hgone hstay hbx hjl hlt
  go_wp2_with fail
  rw [hen _ _]
  go_wp2_with fail
  refine (HCC.out _ (hR.out.fp.trans ((Fp.refl Non wr).alloc _) (fun _ h => h.elim))).mono ?_
  rintro e w2 ⟨rfl, hf2⟩
  have hM2 := hR.out.keep (((Fp.refl Non wr).alloc _).then hf2)
  have hbx2 := (HB.out.2.2.keep hf2 id).five
  cases b with
  | true =>
   have hM : Hid (DfM Non q l G cap w i (j + 1) w2) := HB.out.1 w2 hM2 rfl
   have hj1 := HL.out
   clear hf2 hM2 hbx2
   go_wp2
   go_roundw
   case rel => exact ⟨i, j + 1, by omega, hin, rfl, by go_num, hM⟩
   case measure => simp [RowKit.intOf]; omega
  | false => ?_
  obtain ⟨y, hy⟩ := hM2.there (by rw [← HX.out.1]; exact hj)
  obtain ⟨b0, b1, b2, b3, b4⟩ := hbx2
  have y0 := hy.c0; have y1 := hy.c1; have y2 := hy.c2; have y3 := hy.c3; have y4 := hy.c4
  have f0 := hM2.frozen (i * 5); have f1 := hM2.frozen (i * 5 + 1); have f2 := hM2.frozen (i * 5 + 2); have f3 := hM2.frozen (i * 5 + 3); have f4 := hM2.frozen (i * 5 + 4)
  have hM := zI (HB.out.2.1 w2 (((((w2.setCell ⟨G, i * 5, none⟩ (strV x.path)).setCell ⟨G, i * 5 + 1, none⟩ (strV x.data)).setCell ⟨G, i * 5 + 2, none⟩ (.int .i64 x.ver)).setCell ⟨G, i * 5 + 3, none⟩ (.int .i64 x.turn)).setCell ⟨G, i * 5 + 4, none⟩ (.int .i64 x.own)) hM2 rfl (fun m hm hi => hm.put i hi x) (fp_put (S := fun k => k = G) (Fp.refl _ w2) (.inl rfl) _ _ _ _ _ _))
  have hij := hM2.ij
  have hj1 := HL.out
  have q5 : ((i : Int) < (n : Int)) = True := eq_true (by omega)
  have q6 : (i < n) = True := eq_true hin
  unfold strV at hM
  clear hf2 hM2 hy
  go_wp2
  go_roundw
  case rel => exact ⟨i + 1, j + 1, by omega, by omega, by go_num, by go_num, hM⟩
  case measure => simp [RowKit.intOf]; omega
 have hje : j = n := by omega
 subst hje
 obtain ⟨m, h1, h2, h3, h4⟩ := hR.out.ex
 have hil : (m.take i).length = i := by rw [List.length_take, h2, ← HX.out.1]; omega
 have hcl := clear_in (h1.take i) 0 (j - i) (cap - i) (by omega) (by rw [hil]; omega)
 rw [hil] at hcl
 have hfin : m.take i = l.filter (fun n => !q n) := by rw [h3, List.take_of_length_le (by rw [← HX.out.1]; exact Nat.le_refl _)]
 rw [hfin] at hcl hil
 have HCL := zI hcl
 have HL := zI hil
 have q3 : ((j : Int) < (j : Int)) = False := eq_false (by omega)
 have q4 : (cap = i) = False := eq_false (by omega)
 have q5 : (i ≤ j) = True := eq_true (by omega)
 have q6 : ((i : Int) ≤ (j : Int)) = True := eq_true (by omega)
 have q7 : (i ≤ cap) = True := eq_true (by omega)
 have q8 : ((i : Int) ≤ (cap : Int)) = True := eq_true (by omega)
 have q9 : ∃ d, j - i = d + 1 := ⟨j - i - 1, by omega⟩
 obtain ⟨d, hd⟩ := q9
 rw [hd] at HCL
 clear h1 h2 h3 h4 hil hcl hfin hj hlt
 go_wp2_with fail
 obtain ⟨w5, hr, hrow, hf5⟩ := HCL.out
 rw [hr]
 simp only [Result.andThen]
 rw [Oper.upon_value]
 have HR := zI (yI hrow (hR.out.fp.same hf5))
 clear hr hrow hf5
 go_wp2
 go_ret
 exact ⟨_, rfl, ⟨by rw [HL.out]; rfl, HR.out.1, HR.out.2⟩⟩
abbrev TSs : TypeId := 32
structure AnR (lo : Nat) (w : World) (ps : List Bs) (v' : Value) (w' : World) : Prop where
 own : Own lo w' v' ps
 fp : Fp (fun k => lo ≤ k) w w'
theorem app_name (w : World) (lo : Nat) (v : Value) (ps : List Bs) (x : Bs) (ty : TypeId) (ho : Own lo w v ps) (hn : ps.length ≤ 100000) (hlo : lo ≤ w.heap.size) :
  ∃ v' w', (Builtin.append_ #[TSs, TSs] ty #[v, .slice (some ⟨w.heap.size, 0, none⟩) 1 1]).run Tryz.prog (w.alloc (.cells #[.string (B x)] 9)) = .ok v' w' ∧ AnR lo w (ps ++ [x]) v' w' := by
 obtain ⟨i0, hi, hz0, hz1, hz2⟩ := info_parts Tryz.infoS
 have hc : (w.alloc (.cells #[.string (B x)] 9)).cell? ⟨w.heap.size, 0, none⟩ = some (strV x) := by rw [cell_of_row _ _ _ _ _ _ (heap_alloc_new w _)]; rfl
 obtain ⟨v', w', hr, h4, h5, h7, _⟩ := run_append_own_at (P := Tryz.prog) (w.alloc (.cells #[.string (B x)] 9)) lo TSs ty 9 i0 (.string ⟨#[]⟩) 1 16 Tryz.underlying32 hi hz0 hz1 hz2 rfl (by decide) v ps.length (ps.map strV) (ho.1.alloc _)
  ⟨w.heap.size, 0, none⟩ 1 1 [strV x] rfl (fun j u hu => by
   cases j with
   | zero => rw [Addr.add_lit, ← Option.some.inj hu]; exact hc
   | succ j => simp at hu) (one_c2 x) (by unfold maxLen; omega) (by omega) (by simp; omega)
 refine ⟨v', w', hr, ⟨⟨by simpa using h4, fun e => by simp at e⟩, ?_⟩⟩
 refine ((Fp.refl (fun k => lo ≤ k) w).alloc _).grown h5 (fun k hk => .inl ?_)
 exact (ho.1.lt k hk).1
theorem Own.grown' {b0 : Nat} {w w' : World} {v : Value} {ps : List Bs} (h : Own b0 w v ps) (g : Fp Non w w') : Own b0 w' v ps := ⟨g.owns h.1 (fun _ _ h => h), h.2⟩
set_option maxHeartbeats 8000000 in
theorem names_c {lo b G cap : Nat} {l : List Nd} {w : World} {f : Value} {q : Nd → Bool} (h : Tn lo b G cap l w) (hs : Sp l) (hq : Pd Non w f q) (hl : l.length ≤ 4000) :
  Calls Tryz.prog 158 #[.pointer (some ⟨b, 0, none⟩), f] w fun e w' => ∃ v', e = .returned v' ∧ Own w.heap.size w' v' ((l.filter q).map (fun n => last n.path)) ∧ Fp Non w w' := by
 have c0 := h.c0
 obtain ⟨n, hn⟩ : ∃ n, n = l.length := ⟨_, rfl⟩
 rw [← hn] at c0
 obtain ⟨kf, fi, fc, rfl, hen, hcall⟩ := hq.ex
 have HX := zI (yI hn (yI hs (yI hcall h.row)))
 have hn6 : n ≤ 4000 := by omega
 have hm := h.row.most
 unfold maxLen at hm
 have H0 : Hid (Own w.heap.size w (.slice none 0 0) (((l.take 0).filter q).map (fun n => last n.path)) ∧ Fp Non w w) := ⟨by rw [List.take_zero]; exact Own.nil _ _, Fp.refl _ _⟩
 clear hq hcall h hs hn hl
 go_enter Tryz.func158, Tryz.ntmps158
 go_wp2_with fail
 go_loopw [5, 13] (fun v i wr => ∃ k : Nat, k ≤ n ∧ i = .int .i64 k ∧ Hid (Own w.heap.size wr v (((l.take k).filter q).map (fun n => last n.path)) ∧ Fp Non w wr)) (fun _ i _ => n - (RowKit.intOf i).toNat)
 case atStart => exact ⟨0, Nat.zero_le _, rfl, H0⟩
 clear H0
 obtain ⟨k, hk, rfl, hR⟩ := hrel
 rename_i wr _
 by_cases hlt : k < n
 ·have hkl : k < l.length := by rw [← HX.out.1]; exact hlt
  have hnd := (HX.out.2.2.2.nd k hkl).keep hR.out.2 id
  have hstep := take_step l k hkl q
  have hcc := fun w1 hf => HX.out.2.2.1 l[k] w1 (HX.out.2.1 _ (List.getElem_mem hkl)) hf
  have hsp := HX.out.2.1 _ (List.getElem_mem hkl)
  obtain ⟨b, hb⟩ : ∃ b, q l[k] = b := ⟨_, rfl⟩
  rw [hb] at hcc hstep
  clear hb
  generalize l[k] = x at *
  have hbx := NdAt.box wr x
  have hla := fun w => Last_g x.path w (sz_of hsp (by omega))
  have c0 := hnd.c0; have c1 := hnd.c1; have c2 := hnd.c2; have c3 := hnd.c3; have c4 := hnd.c4
  unfold strV at c0 c1
  unfold ndV strV at hcc
  simp only [Nat.zero_add] at c0 c1 c2 c3 c4
  have q3 : ((k : Int) < (n : Int)) = True := eq_true (by omega)
  have q4 : (k < n) = True := eq_true hlt
  have HCC := zI hcc
  have HLA := zI hla
  have HB := zI (yI hstep hbx)
  have HL := zI hlt
  clear hnd hcc hstep hbx hkl hlt hla hsp
  go_wp2_with fail
  rw [hen _ _]
  go_wp2_with fail
  refine (HCC.out _ (hR.out.2.trans ((Fp.refl Non wr).alloc _) (fun _ h => h.elim))).mono ?_
  rintro e w2 ⟨rfl, hf2⟩
  have hf2' : Fp Non wr w2 := ((Fp.refl Non wr).alloc _).then hf2
  have hbx2 := (HB.out.2.keep hf2 id).five
  have hown2 : Own w.heap.size w2 _ _ := hR.out.1.grown' hf2'
  cases b with
  | false =>
   have hM : Hid (Own w.heap.size w2 _ (((l.take (k + 1)).filter q).map (fun n => last n.path)) ∧ Fp Non w w2) := ⟨by rw [HB.out.1]; simpa using hown2, hR.out.2.then hf2'⟩
   have hj1 := HL.out
   clear hf2 hbx2 hown2 hf2'
   go_wp2
   go_roundw
   case rel => exact ⟨k + 1, by omega, by go_num, hM⟩
   case measure => simp [RowKit.intOf]; omega
  | true => ?_
  obtain ⟨b0, _, _, _, _⟩ := hbx2
  have HO2 := zI (yI hown2 (yI (hR.out.2.then hf2') hf2'))
  clear hf2 hown2 hf2'
  go_wp2_with fail
  refine (HLA.out _).mono ?_
  rintro e w3 ⟨rfl, g3⟩
  have hown3 : Own w.heap.size w3 _ _ := HO2.out.1.grown' g3.fp
  have hfp3 : Fp Non w w3 := HO2.out.2.1.then g3.fp
  obtain ⟨ps, hps⟩ : ∃ ps, ps = ((l.take k).filter q).map (fun n => last n.path) := ⟨_, rfl⟩
  rw [← hps] at hown3
  have hpl : ps.length ≤ 4000 := by rw [hps, List.length_map]; exact Nat.le_trans (List.length_filter_le _ _) (by rw [List.length_take]; omega)
  have hap := app_name w3 w.heap.size _ ps (last x.path) TSs hown3 (by omega) hfp3.size
  obtain ⟨vao, vcap, rfl⟩ := hown3.shape
  have HPS := zI hps
  have HAP := zI hap
  have HF3 := zI hfp3
  clear g3 hown3 hfp3 hap hps hpl
  go_wp2_with (at_builtin; go_must (refine wpList_app rfl _ _ _ _ rfl _ _ rfl rfl _ HAP.out ?_))
  intro v4 w4 hR4
  have hM : Hid (Own w.heap.size w4 v4 (((l.take (k + 1)).filter q).map (fun n => last n.path)) ∧ Fp Non w w4) := ⟨by rw [HB.out.1]; have := hR4.own; rw [HPS.out] at this; simpa using this, HF3.out.trans hR4.fp (fun k hk => .inr hk)⟩
  have hj1 := HL.out
  clear hR4
  go_wp2
  go_roundw
  case rel => exact ⟨k + 1, by omega, by go_num, hM⟩
  case measure => simp [RowKit.intOf]; omega
 have hke : k = n := by omega
 subst hke
 have q3 : ((k : Int) < (k : Int)) = False := eq_false (by omega)
 have hfin := hR.out.1
 rw [List.take_of_length_le (by rw [← HX.out.1]; exact Nat.le_refl _)] at hfin
 have HF := zI hfin
 clear hlt hk hfin
 go_wp2
 go_ret
 exact ⟨_, rfl, HF.out, hR.out.2⟩
end Go.Proofs.YtphoglepiegeiaaGreatDoor
