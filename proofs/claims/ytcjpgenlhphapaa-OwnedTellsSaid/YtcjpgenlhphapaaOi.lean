/- slices.Insert at ranges; a range stored into a row (gen_o.py) -/
import Derived.Test.YtcjpgenlhphapaaOh
namespace Go.Proofs.Ytcjpgenlhphapaa
set_option maxRecDepth 20000
set_option linter.unusedVariables false
set_option linter.unusedSimpArgs false
open Go.RowKit Pm

/-- One more, at a place. -/
def insH (l : List Hl) (k : Nat) (x : Hl) : List Hl := l.take k ++ x :: l.drop k
theorem ins_lengthH (l : List Hl) (k : Nat) (x : Hl) : (insH l k x).length = l.length + 1 := by
  unfold insH; simp only [List.length_append, List.length_take, List.length_drop, List.length_cons, List.length_nil]; omega
/-- Behind a copy into a row. -/
structure CopRH (G cap : Nat) (cur : List Value) (w w' : World) : Prop where
  hp : w'.heap[G]? = some (.cells cur.toArray TH (0, 0))
  len : cur.length = cap * 3
  fp : Fp (fun k => k = G) w w'

theorem copy_atH {w : World} {G cap : Nat} {cur : List Value} (hg : w.heap[G]? = some (.cells cur.toArray TH (0, 0))) (hl : cur.length = cap * 3) (ty : TypeId) (o dLen dCap : Nat) (a : Addr) (sLen sCap : Nat) (l : List Hl) (hm : l.length = Nat.min sLen dLen)
    (hsrc : ∀ i (h : i < l.length) j v, (hlC l[i])[j]? = some v → w.cell? (a.add (i * 3 + j)) = some v) (hfit : o + l.length * 3 ≤ cap * 3) :
    ∃ v' w', (Builtin.copy_ #[TLH, TLH] ty #[.slice (some ⟨G, o, none⟩) dLen dCap, .slice (some a) sLen sCap]).run Try.prog w = .ok v' w' ∧ CopRH G cap (cur.take o ++ rowsH l ++ cur.drop (o + l.length * 3)) w w' := by
  have h := run_copy_nodesH w ty G o dLen dCap a sLen sCap cur l.length (rowsH l) hg hm (rowsH_len l) (fun j v hv => by
    have hj : j < l.length * 3 := by rw [← rowsH_len]; exact (List.getElem?_eq_some_iff.1 hv).1
    have hd : j / 3 < l.length := by omega
    have e : j / 3 * 3 + j % 3 = j := by omega
    rw [← e, rowsH_get l (j / 3) (j % 3) hd (by omega)] at hv
    have := hsrc (j / 3) hd (j % 3) v hv
    rwa [e] at this) (by rw [rowsH_len, hl]; exact hfit) (rowsH_one l)
  rw [rowsH_len] at h
  refine ⟨_, _, h, setRow_heap w G _ _ TH _ hg, ?_, fp_setRow w G _⟩
  simp only [List.length_append, List.length_take, List.length_drop, rowsH_len, hl]
  omega

theorem NrH.src {w : World} {G cap : Nat} {l : List Hl} (h : NrH w G cap l) (k : Nat) : ∀ i (hi : i < (l.drop k).length) j v, (hlC (l.drop k)[i])[j]? = some v → w.cell? ((⟨G, k * 3, none⟩ : Addr).add (i * 3 + j)) = some v := by
  intro i hi j v hv
  rw [List.length_drop] at hi
  rw [List.getElem_drop] at hv
  have hj : j < 3 := by have := (List.getElem?_eq_some_iff.1 hv).1; simpa [hlC] using this
  rw [Addr.add_lit, show k * 3 + (i * 3 + j) = (k + i) * 3 + j from by omega, h.cell (k + i) j (by omega) hj, hv]

/-- What the two copies leave. -/
theorem ins_cellsH (l : List Hl) (k : Nat) (hk : k ≤ l.length) (x : Hl) (cur : List Value) (h1 : cur.take (k * 3) = rowsH (l.take k)) (h2 : (l.length + 1) * 3 ≤ cur.length) :
    ∃ rest, ((cur.take ((k + 1) * 3) ++ rowsH (l.drop k) ++ cur.drop ((k + 1) * 3 + (l.drop k).length * 3)).take (k * 3) ++ rowsH [x] ++ (cur.take ((k + 1) * 3) ++ rowsH (l.drop k) ++ cur.drop ((k + 1) * 3 + (l.drop k).length * 3)).drop (k * 3 + [x].length * 3)) = rowsH (insH l k x) ++ rest ∧
      (l.length + 1) * 3 + rest.length = cur.length := by
  refine ⟨cur.drop ((k + 1) * 3 + (l.drop k).length * 3), ?_, ?_⟩
  · have e1 : (cur.take ((k + 1) * 3)).length = (k + 1) * 3 := by rw [List.length_take]; omega
    have e2 : (cur.take ((k + 1) * 3) ++ rowsH (l.drop k) ++ cur.drop ((k + 1) * 3 + (l.drop k).length * 3)).take (k * 3) = rowsH (l.take k) := by
      rw [List.append_assoc, List.take_append_of_le_length (by rw [e1]; omega), List.take_take, Nat.min_eq_left (by omega), h1]
    have e3 : (cur.take ((k + 1) * 3) ++ rowsH (l.drop k) ++ cur.drop ((k + 1) * 3 + (l.drop k).length * 3)).drop (k * 3 + [x].length * 3) = rowsH (l.drop k) ++ cur.drop ((k + 1) * 3 + (l.drop k).length * 3) := by
      rw [List.append_assoc, List.drop_append, List.drop_of_length_le (by rw [e1]; simp; omega), e1, show k * 3 + [x].length * 3 - (k + 1) * 3 = 0 from by simp; omega]
      rfl
    rw [e2, e3, insH, rowsH_app]
    simp [rowsH, List.append_assoc]
  · simp only [List.length_drop]; omega

set_option maxHeartbeats 40000000 in
theorem Insert_midH {w : World} {G cap X : Nat} {l : List Hl} {x : Hl} (h : NrH w G cap l) (k : Nat) (hk : k < l.length) (hroom : l.length + 1 ≤ cap) (hX : NdAtH w X 0 x) (hne : X ≠ G) (hl : l.length ≤ 40000) (hfr : w.heap[X]? = some (.cells (hlC x).toArray TH (0, 0))) :
    Calls Try.prog 53 #[.slice (some ⟨G, 0, none⟩) l.length cap, .int .i64 (k : Int), .slice (some ⟨X, 0, none⟩) 1 1] w fun e w' => e = .returned (.slice (some ⟨G, 0, none⟩) (l.length + 1) cap) ∧ NrH w' G cap (insH l k x) ∧ Fp (fun j => j = G) w w' := by
  have hm := h.most
  unfold maxLen at hm
  obtain ⟨n, hn⟩ : ∃ n, n = l.length := ⟨_, rfl⟩
  have q1 : ((k : Int) == (n : Int)) = false := beq_eq_false_iff_ne.2 (by omega)
  have q2 : ((cap : Int) < (n : Int) + 1) = False := eq_false (by omega)
  have hkn : k < n := by omega
  have hn6 : n ≤ 40000 := by omega
  have hcn : n + 1 ≤ cap := by omega
  have wk : IntKind.i64.wrap ((k : Int) + 1) = ((k + 1 : Nat) : Int) := by rw [IntKind.wrap_i64]; omega
  have r1 : (cap = k + 1) = False := eq_false (by omega)
  have r2 : (cap = k) = False := eq_false (by omega)
  have r3 : (((k + 1 : Nat) : Int) ≤ (n : Int) + 1) = True := eq_true (by omega)
  have r4 : (k ≤ n) = True := eq_true (by omega)
  have r5 : ((0 : Int) ≤ ((k + 1 : Nat) : Int)) = True := eq_true (by omega)
  have r7 : ((k : Int) ≤ (n : Int) + 1) = True := eq_true (by omega)
  have r6 : ((0 : Int) ≤ (k : Int) + 1) = True := eq_true (by omega)
  have e5 : n + 1 - (k + 1) = n - k := by omega
  obtain ⟨rest, hgr, hrl⟩ := h.ex
  have hd : NrH w.drew G cap l := h.keep ((Fp.refl Non w).drew) (fun h => h)
  have hlc : (rowsH l ++ rest).length = cap * 3 := by rw [List.length_append, rowsH_len]; omega
  have hc1 : ∀ ty, ∃ v' w', (Builtin.copy_ #[TLH, TLH] ty #[.slice (some ⟨G, (k + 1) * 3, none⟩) (n - k) (cap - (k + 1)), .slice (some ⟨G, k * 3, none⟩) (n + 1 - k) (cap - k)]).run Try.prog w.drew = .ok v' w' ∧ CopRH G cap ((rowsH l ++ rest).take ((k + 1) * 3) ++ rowsH (l.drop k) ++ (rowsH l ++ rest).drop ((k + 1) * 3 + (l.drop k).length * 3)) w.drew w' := fun ty =>
    copy_atH (w := w.drew) hgr hlc ty ((k + 1) * 3) (n - k) (cap - (k + 1)) ⟨G, k * 3, none⟩ (n + 1 - k) (cap - k) (l.drop k) (by rw [List.length_drop, ← hn]; simp only [Nat.min_def]; split <;> omega) (hd.src k) (by rw [List.length_drop]; omega)
  have HC1 := Lib.hid hc1
  have HX := Lib.hid (And.intro hX hne)
  have HX2 := Lib.hid (And.intro (show (rowsH l ++ rest).take (k * 3) = rowsH (l.take k) by rw [List.take_append_of_le_length (by rw [rowsH_len]; omega), rowsH_take]) (show (l.length + 1) * 3 ≤ (rowsH l ++ rest).length by rw [hlc]; omega))
  have HX3 := Lib.hid (And.intro hlc h.most)
  have hov : ∀ o lb cb, (callFunc 65 #[.slice (some ⟨X, 0, none⟩) 1 1, .slice (some ⟨G, o, none⟩) lb cb]).run Try.prog w = .ok (.value (.bool false)) w := fun o lb cb => by
    obtain ⟨r, hg, hr⟩ := h.ex
    rw [run_callFunc_extern Try.func65 (by kernel_rfl) (by kernel_rfl) (by kernel_rfl) (e := Extern.SlicesOverlaps.overlaps #[TLH, TLH] #[4]) (by kernel_rfl),
      Lib.run_overlaps_apart w TLH 4 TH Try.underlying22 3 szNH ⟨X, 0, none⟩ ⟨G, o, none⟩ 1 1 lb cb hne TH TH 3 (cap * 3) (by simp [World.shape?, hfr, hlC]) (by simp [World.shape?, hg, rowsH_len]; omega) (by omega) (by simp [World.frozen?, hfr]) (by simp [World.frozen?, hfr])]
    rfl
  rw [← hn]
  have HN := Lib.hid hn
  clear hn
  go_enter Try.func53, Try.ntmps53
  clear h hX hfr hc1 hd hlc hgr hrl
  go_wp2_with (simp only [hov])
  go_region_law ((refine step_copy rfl _ _ TLH TLH rfl (.slice (some ⟨G, (k + 1) * 3, none⟩) (n - k) (cap - (k + 1))) (.slice (some ⟨G, k * 3, none⟩) (n + 1 - k) (cap - k)) (by simp [Act.eval, Act.put]) (by simp [Act.eval, Act.put]) (fun _ w' => CopRH G cap _ w.drew w') (HC1.out _) ?_; intro v1 w1 hR1))
  have hX1 : NdAtH w1 X 0 x := (HX.out.1.keep ((Fp.refl Non w).drew) (fun h => h)).keep hR1.fp HX.out.2
  have hc2 := fun ty => copy_atH hR1.hp hR1.len ty (k * 3) (n + 1 - k) (cap - k) ⟨X, 0, none⟩ 1 1 [x] (by simp only [Nat.min_def, List.length_cons, List.length_nil]; split <;> omega) (fun i hi j v hv => by
    have hi0 : i = 0 := by simp at hi; omega
    subst hi0
    have := hX1.get j v hv
    rwa [show 0 * 3 + j = j from by omega]) (by simp; omega)
  have HC2 := Lib.hid hc2
  have HF1 := Lib.hid (((Fp.refl Non w).drew.any (S := fun j => j = G)).same hR1.fp)
  clear hR1 hX1 hc2
  go_wp2_with fail
  obtain ⟨v2, w2, hr, hR2⟩ := HC2.out 3
  rw [hr]
  simp only [Result.andThen]
  rw [Oper.upon_value]
  clear hr
  obtain ⟨rest2, he, hl2⟩ := ins_cellsH l k (by have := HN.out; omega) x (rowsH l ++ rest) HX2.out.1 HX2.out.2
  have hrow : NrH w2 G cap (insH l k x) := by
    refine ⟨⟨rest2, ?_, ?_⟩, ?_, HX3.out.2⟩
    · have := hR2.hp; rw [he] at this; exact this
    · rw [ins_lengthH]; have := HX3.out.1; omega
    · rw [ins_lengthH]; have := HN.out; omega
  have HR := Lib.hid (And.intro hrow (HF1.out.same hR2.fp))
  clear hR2 he hl2 hrow
  go_wp2
  go_ret
  exact ⟨rfl, HR.out.1, HR.out.2⟩

/-- A row that came of another one, or is new. -/
structure InsRH (w : World) (G n : Nat) (l : List Hl) (v' : Value) (w' : World) : Prop where
  ex : ∃ G' cap', v' = .slice (some ⟨G', 0, none⟩) n cap' ∧ NrH w' G' cap' l ∧ (G' = G ∨ w.heap.size ≤ G') ∧ Fp (fun j => j = G) w w'

set_option maxHeartbeats 2000000 in
theorem Insert_endH {w : World} {G cap X : Nat} {l : List Hl} {x : Hl} (h : NrH w G cap l) (hX : NdAtH w X 0 x) (hl : l.length ≤ 40000) (h0 : 0 < l.length) :
    Calls Try.prog 53 #[.slice (some ⟨G, 0, none⟩) l.length cap, .int .i64 (l.length : Int), .slice (some ⟨X, 0, none⟩) 1 1] w fun e w' => ∃ v', e = .returned v' ∧ InsRH w G (l.length + 1) (l ++ [x]) v' w' := by
  have hap : ∀ ty, ∃ v' w', (Builtin.append_ #[TLH, TLH] ty #[.slice (some ⟨G, 0, none⟩) l.length cap, .slice (some ⟨X, 0, none⟩) 1 1]).run Try.prog w = .ok v' w' ∧ InsRH w G (l.length + 1) (l ++ [x]) v' w' := fun ty => by
    obtain ⟨G', cap', w', hr, h1, _, h2, h3⟩ := app_nodesH w 0 _ l [x] ty X 0 1 1 (h.owns (Nat.zero_le _)) rfl (fun i hi => by
      have hi0 : i = 0 := by simp at hi; omega
      subst hi0; exact hX) (by simp; omega) (Nat.zero_le _) (by omega)
    refine ⟨_, w', hr, ⟨G', cap', rfl, h1, ?_, (Fp.refl _ w).grown h2 (fun k hk => .inl (by simp [Value.ownBlock] at hk; exact hk.symm))⟩⟩
    rcases h3 with h3 | h3
    · left; simp [Value.ownBlock] at h3; exact h3.symm
    · exact .inr h3
  have hm := h.most
  have hr := h.room
  unfold maxLen at hm
  generalize l.length = n at *
  have HA := Lib.hid hap
  have hn1 : (0 : Int) ≤ (n : Int) := by omega
  clear hap h hX
  go_enter Try.func53, Try.ntmps53
  go_wp2_with (at_builtin; go_must (refine wpList_app rfl _ _ _ _ rfl _ _ rfl rfl (InsRH w G (n + 1) (l ++ [x])) (HA.out TLH) ?_))
  all_goals
    intro v2 w2 hR2
    have HR := Lib.hid hR2
    obtain ⟨G', cap', rfl, _⟩ := hR2.ex
    clear hR2
    go_wp2
    go_ret
    exact ⟨_, rfl, HR.out⟩

structure ZerRH (w : World) (n gc : Nat) (W1 : World) (v' : Value) (w' : World) : Prop where
  v : v' = .slice (some ⟨w.heap.size, 0, none⟩) (n + 1) gc
  w : w' = W1
theorem zerH {w W1 : World} {n gc k G cap : Nat} {ty : TypeId} (h : ∀ ty, (Builtin.append_ #[TLH, 3] ty #[.slice (some ⟨G, 0, none⟩) k cap, .int .i64 ((n + 1 - k : Nat) : Int)]).run Try.prog w = .ok (.slice (some ⟨w.heap.size, 0, none⟩) (n + 1) gc) W1) :
    ∃ v' w', (Builtin.append_ #[TLH, 3] ty #[.slice (some ⟨G, 0, none⟩) k cap, .int .i64 ((n + 1 - k : Nat) : Int)]).run Try.prog w = .ok v' w' ∧ ZerRH w n gc W1 v' w' := ⟨_, _, h ty, rfl, rfl⟩

theorem grow_cellsH (l : List Hl) (k : Nat) (hk : k ≤ l.length) (x : Hl) (cur : List Value) (h1 : cur.take (k * 3) = rowsH (l.take k)) (h2 : (l.length + 1) * 3 ≤ cur.length) :
    ∃ rest, ((cur.take (k * 3) ++ rowsH [x] ++ cur.drop (k * 3 + [x].length * 3)).take ((k + 1) * 3) ++ rowsH (l.drop k) ++ (cur.take (k * 3) ++ rowsH [x] ++ cur.drop (k * 3 + [x].length * 3)).drop ((k + 1) * 3 + (l.drop k).length * 3)) = rowsH (insH l k x) ++ rest ∧
      (l.length + 1) * 3 + rest.length = cur.length := by
  have e0 : (rowsH (l.take k) ++ rowsH [x]).length = (k + 1) * 3 := by rw [List.length_append, rowsH_len, rowsH_len, List.length_take]; simp; omega
  refine ⟨(cur.take (k * 3) ++ rowsH [x] ++ cur.drop (k * 3 + [x].length * 3)).drop ((k + 1) * 3 + (l.drop k).length * 3), ?_, ?_⟩
  · rw [h1]
    rw [List.take_append_of_le_length (by rw [e0]; omega), List.take_of_length_le (by rw [e0]; omega)]
    congr 1
    rw [insH, rowsH_app]
    simp [rowsH, List.append_assoc]
  · rw [h1, List.length_drop, List.length_append, e0, List.length_drop, List.length_drop]
    simp; omega

set_option maxHeartbeats 40000000 in
theorem Insert_growH {w : World} {G cap X : Nat} {l : List Hl} {x : Hl} (h : NrH w G cap l) (k : Nat) (hk : k < l.length) (hroom : cap < l.length + 1) (hX : NdAtH w X 0 x) (hl : l.length ≤ 40000) :
    Calls Try.prog 53 #[.slice (some ⟨G, 0, none⟩) l.length cap, .int .i64 (k : Int), .slice (some ⟨X, 0, none⟩) 1 1] w fun e w' => ∃ v', e = .returned v' ∧ InsRH w G (l.length + 1) (insH l k x) v' w' := by
  have hm := h.most
  have hcr := h.room
  unfold maxLen at hm
  obtain ⟨n, hn⟩ : ∃ n, n = l.length := ⟨_, rfl⟩
  obtain ⟨i0, hi0, hz0, hzs, hzb⟩ := info_parts Try.infoH
  have hold : (Builtin.firstCells i0.size k (.slice (some ⟨G, 0, none⟩) k cap)).run Try.prog w.drew = .ok (rowsH (l.take k)).toArray w.drew := by
    rw [hzs]
    refine run_firstCells_some w.drew 3 k ⟨G, 0, none⟩ k cap (rowsH (l.take k)) (by rw [rowsH_len, List.length_take]; omega) (fun j v hj => ?_)
    have hj5 : j < k * 3 := by have := (List.getElem?_eq_some_iff.1 hj).1; rw [rowsH_len, List.length_take] at this; omega
    have hd : j / 3 < (l.take k).length := by rw [List.length_take]; omega
    have e : j / 3 * 3 + j % 3 = j := by omega
    rw [← e, rowsH_get _ (j / 3) (j % 3) hd (by omega), List.getElem_take] at hj
    have := h.cell (j / 3) (j % 3) (by omega) (by omega)
    rw [e, hj] at this
    rw [Addr.add_lit, Nat.zero_add]
    exact this
  have hrz : ∀ ty, _ := fun ty => Lib.run_append_grow_zeros w TLH 3 ty TH i0 _ .i64 .i64 Try.underlying22 Try.underlying3 hi0 hz0 (some ⟨G, 0, none⟩) k cap (rowsH (l.take k)) hold (n + 1 - k) (by omega) (by omega) (by omega) (by omega) (by rw [hzb]; omega) (by rw [hzb]; exact growslice_fits (by omega) (by omega))
  rw [show k + (n + 1 - k) = n + 1 from by omega] at hrz
  obtain ⟨gc, hgc⟩ : ∃ gc, gc = grownCap w (n + 1) cap TH := ⟨_, rfl⟩
  have hgl : n + 1 ≤ gc := by rw [hgc]; exact grownCap_ge w (n + 1) cap TH
  have hgm : gc ≤ maxLen := by rw [hgc]; exact grownCap_le_maxLen w (n + 1) cap TH (by unfold maxLen; omega)
  rw [← hgc] at hrz
  obtain ⟨cur, hcur⟩ : ∃ cur : List Value, cur = ((rowsH (l.take k)).toArray ++ Builtin.zeroCells (Value.cells (.agg #[.string ⟨#[]⟩, .int .i64 0, .int .i64 0])) (n + 1 - k) ++ Builtin.zeroCells (Value.cells (.agg #[.string ⟨#[]⟩, .int .i64 0, .int .i64 0])) (gc - (n + 1))).toList := ⟨_, rfl⟩
  have hcl : cur.length = gc * 3 := by
    rw [hcur, Array.length_toList, Array.size_append, Array.size_append, size_zeroCells, size_zeroCells, List.size_toArray, rowsH_len, List.length_take]
    show min k l.length * 3 + (n + 1 - k) * 3 + (gc - (n + 1)) * 3 = gc * 3
    omega
  have hct : cur.take (k * 3) = rowsH (l.take k) := by
    rw [hcur, Array.toList_append, Array.toList_append, List.append_assoc, List.take_append_of_le_length (by simp [rowsH_len]; omega), List.take_of_length_le (by simp [rowsH_len]; omega)]
  obtain ⟨W1, hW1⟩ : ∃ W1, W1 = w.drew.alloc (.cells cur.toArray TH) := ⟨_, rfl⟩
  have hrz2 : ∀ ty, (Builtin.append_ #[TLH, 3] ty #[.slice (some ⟨G, 0, none⟩) k cap, .int .i64 ((n + 1 - k : Nat) : Int)]).run Try.prog w = .ok (.slice (some ⟨w.heap.size, 0, none⟩) (n + 1) gc) W1 := fun ty => by
    rw [hW1, hcur]; exact hrz ty
  have hf1 : Fp Non w W1 := by rw [hW1]; exact ((Fp.refl Non w).drew).alloc _
  have hg1 : W1.heap[w.heap.size]? = some (.cells cur.toArray TH (0, 0)) := by rw [hW1]; exact heap_alloc_new w.drew _
  have hX1 := hX.keep hf1 (fun h => h)
  have h1 := h.keep hf1 (fun h => h)
  have hGlt := h.lt
  have hc1 : ∀ ty, ∃ v' w', (Builtin.copy_ #[TLH, TLH] ty #[.slice (some ⟨w.heap.size, k * 3, none⟩) (n + 1 - k) (gc - k), .slice (some ⟨X, 0, none⟩) 1 1]).run Try.prog W1 = .ok v' w' ∧ CopRH w.heap.size gc (cur.take (k * 3) ++ rowsH [x] ++ cur.drop (k * 3 + [x].length * 3)) W1 w' := fun ty =>
    copy_atH hg1 hcl ty (k * 3) (n + 1 - k) (gc - k) ⟨X, 0, none⟩ 1 1 [x] (by simp only [Nat.min_def, List.length_cons, List.length_nil]; split <;> omega) (fun i hi j v hv => by
      have hi0 : i = 0 := by simp at hi; omega
      subst hi0
      have := hX1.get j v hv
      rwa [show 0 * 3 + j = j from by omega]) (by simp; omega)
  have q1 : ((k : Int) == (n : Int)) = false := beq_eq_false_iff_ne.2 (by omega)
  have q2 : ((cap : Int) < (n : Int) + 1) = True := eq_true (by omega)
  have hkn : k < n := by omega
  have hn6 : n ≤ 40000 := by omega
  have hcn : cap = n := by omega
  have wk : IntKind.i64.wrap ((k : Int) + 1) = ((k + 1 : Nat) : Int) := by rw [IntKind.wrap_i64]; omega
  have wn : (n : Int) + 1 - (k : Int) = ((n + 1 - k : Nat) : Int) := by omega
  have r1 : (gc = k + 1) = False := eq_false (by omega)
  have r2 : (gc = k) = False := eq_false (by omega)
  have r8 : (cap = k) = False := eq_false (by omega)
  have r3 : (((k + 1 : Nat) : Int) ≤ (n : Int) + 1) = True := eq_true (by omega)
  have r4 : (k ≤ n) = True := eq_true (by omega)
  have r5 : ((0 : Int) ≤ ((k + 1 : Nat) : Int)) = True := eq_true (by omega)
  have r7 : ((k : Int) ≤ (n : Int) + 1) = True := eq_true (by omega)
  have r6 : ((0 : Int) ≤ (k : Int) + 1) = True := eq_true (by omega)
  have r9 : (k ≤ cap) = True := eq_true (by omega)
  have r10 : ((k : Int) ≤ (cap : Int)) = True := eq_true (by omega)
  have e5 : n + 1 - (k + 1) = n - k := by omega
  rw [← hn]
  have HZ := Lib.hid hrz2
  have HC1 := Lib.hid hc1
  have HX := Lib.hid (And.intro hn (And.intro h1 (And.intro hcl (And.intro hct (And.intro hgm (And.intro hgl (And.intro hf1 hGlt)))))))
  unfold maxLen at hgm
  clear hrz2 hc1 hrz hold hn h1 hX1 hg1 hf1 hW1 hcl hct hcur hgc hX h hGlt hcn hk hroom hl hcr hi0 hz0 hzs hzb
  go_enter Try.func53, Try.ntmps53
  go_wp2_with (at_builtin; go_must (refine wpList_app rfl _ _ _ _ rfl _ _ rfl rfl (fun v' w' => ZerRH w n gc W1 v' w') (zerH HZ.out) ?_))
  intro v2 w2 hR2
  obtain ⟨rfl, rfl⟩ := hR2
  go_wp2_with fail
  obtain ⟨v3, w3, hr, hR3⟩ := HC1.out 3
  rw [hr]
  simp only [Result.andThen]
  rw [Oper.upon_value]
  clear hr
  have h3 : NrH w3 G cap l := HX.out.2.1.keep hR3.fp (fun e => by have := HX.out.2.2.2.2.2.2.2; omega)
  have hd3 : NrH w3.drew G cap l := h3.keep ((Fp.refl Non w3).drew) (fun h => h)
  have hl3 := HX.out.1
  have hc2 : ∀ ty, ∃ v' w', (Builtin.copy_ #[TLH, TLH] ty #[.slice (some ⟨w.heap.size, (k + 1) * 3, none⟩) (n - k) (gc - (k + 1)), .slice (some ⟨G, k * 3, none⟩) (n - k) (cap - k)]).run Try.prog w3.drew = .ok v' w' ∧ CopRH w.heap.size gc _ w3.drew w' := fun ty =>
    copy_atH (w := w3.drew) hR3.hp hR3.len ty ((k + 1) * 3) (n - k) (gc - (k + 1)) ⟨G, k * 3, none⟩ (n - k) (cap - k) (l.drop k) (by rw [List.length_drop, ← hl3]; simp only [Nat.min_def]; split <;> omega) (hd3.src k) (by rw [List.length_drop]; omega)
  have HC2 := Lib.hid hc2
  have HF3 := Lib.hid hR3.fp
  clear hR3 h3 hd3 hl3 hc2
  go_wp2_with fail
  go_region_law ((refine step_copy rfl _ _ TLH TLH rfl (.slice (some ⟨w.heap.size, (k + 1) * 3, none⟩) (n - k) (gc - (k + 1))) (.slice (some ⟨G, k * 3, none⟩) (n - k) (cap - k)) (by simp [Act.eval, Act.put]) (by simp [Act.eval, Act.put]) (fun _ w' => CopRH w.heap.size gc _ w3.drew w') (HC2.out _) ?_; intro v4 w4 hR4))
  obtain ⟨rest2, he, hl2⟩ := grow_cellsH l k (by have := HX.out.1; omega) x cur HX.out.2.2.2.1 (by have h1 := HX.out.1; have h2 := HX.out.2.2.1; have h3 := HX.out.2.2.2.2.2.1; omega)
  have hrow : NrH w4 w.heap.size gc (insH l k x) := by
    refine ⟨⟨rest2, ?_, ?_⟩, ?_, HX.out.2.2.2.2.1⟩
    · have := hR4.hp; rw [he] at this; exact this
    · rw [ins_lengthH]; have := HX.out.2.2.1; omega
    · rw [ins_lengthH]; have h1 := HX.out.1; have h3 := HX.out.2.2.2.2.2.1; omega
  have hfp : Fp (fun j => j = G) w w4 := (((HX.out.2.2.2.2.2.2.1.any (S := fun j => j = G)).trans HF3.out (fun k hk => .inr (by rw [hk]; exact Nat.le_refl _))).trans (((Fp.refl Non w3).drew.any (S := fun j => j = w.heap.size)).same hR4.fp) (fun k hk => .inr (by rw [hk]; exact Nat.le_refl _)))
  have HR := Lib.hid (And.intro hrow hfp)
  clear hR4 he hl2 hrow hfp
  go_wp2
  go_ret
  exact ⟨_, rfl, ⟨w.heap.size, gc, rfl, HR.out.1, .inr (Nat.le_refl _), HR.out.2⟩⟩

theorem Insert_cH {w : World} {G cap X : Nat} {l : List Hl} {x : Hl} (h : NrH w G cap l) (k : Nat) (hk : k ≤ l.length) (hX : w.heap[X]? = some (.cells (hlC x).toArray TH (0, 0))) (hne : X ≠ G) (hl : l.length ≤ 40000) (h0 : 0 < l.length) :
    Calls Try.prog 53 #[.slice (some ⟨G, 0, none⟩) l.length cap, .int .i64 (k : Int), .slice (some ⟨X, 0, none⟩) 1 1] w fun e w' => ∃ v', e = .returned v' ∧ InsRH w G (l.length + 1) (insH l k x) v' w' := by
  have hnd : NdAtH w X 0 x := ⟨by rw [cell_of_row _ _ _ _ _ _ hX]; rfl, by rw [cell_of_row _ _ _ _ _ _ hX]; rfl, by rw [cell_of_row _ _ _ _ _ _ hX]; rfl⟩
  by_cases hkl : k < l.length
  · by_cases hr : l.length + 1 ≤ cap
    · refine (Insert_midH h k hkl hr hnd hne hl hX).mono ?_
      rintro e w' ⟨rfl, h1, h2⟩
      exact ⟨_, rfl, ⟨G, cap, rfl, h1, .inl rfl, h2⟩⟩
    · exact Insert_growH h k hkl (by omega) hnd hl
  · obtain rfl : k = l.length := by omega
    have e : insH l l.length x = l ++ [x] := by unfold insH; simp
    rw [e]
    exact Insert_endH h hnd hl h0

set_option maxHeartbeats 2000000 in
theorem Insert_ownH {lo : Nat} {w : World} {v : Value} {X : Nat} {l : List Hl} {x : Hl} (h : OwH lo w v l) (k : Nat) (hk : k ≤ l.length) (hX : w.heap[X]? = some (.cells (hlC x).toArray TH (0, 0))) (hne : v.ownBlock ≠ some X) (hl : l.length ≤ 40000) (hlo : lo ≤ w.heap.size) :
    Calls Try.prog 53 #[v, .int .i64 (k : Int), .slice (some ⟨X, 0, none⟩) 1 1] w fun e w' => ∃ v', e = .returned v' ∧ ChRH lo w v (insH l k x) v' w' := by
  have hnd : NdAtH w X 0 x := ⟨by rw [cell_of_row _ _ _ _ _ _ hX]; rfl, by rw [cell_of_row _ _ _ _ _ _ hX]; rfl, by rw [cell_of_row _ _ _ _ _ _ hX]; rfl⟩
  rcases h.ways with ⟨rfl, rfl⟩ | ⟨G, cap, rfl, h1, h2⟩
  · obtain rfl : k = 0 := by simpa using hk
    have hap : ∀ ty, ∃ v' w', (Builtin.append_ #[TLH, TLH] ty #[.slice none 0 0, .slice (some ⟨X, 0, none⟩) 1 1]).run Try.prog w = .ok v' w' ∧ ChRH lo w (.slice none 0 0) (insH [] 0 x) v' w' := fun ty => by
      obtain ⟨v', w', hr, ho, hg, hn8⟩ := app_ownH w lo (.slice none 0 0) [] [x] ty ⟨X, 0, none⟩ 1 1 h rfl (fun i hi j u hu => by
        have hi0 : i = 0 := by simp at hi; omega
        subst hi0
        have := hnd.get j u hu
        rwa [show 0 * 3 + j = j from by omega]) (by simp) hlo
      exact ⟨v', w', hr, ho, (Fp.refl _ w).grown hg (fun k hk => .inl hk), hn8⟩
    have HA := Lib.hid hap
    clear hap h hk hX hnd hl
    go_enter Try.func53, Try.ntmps53
    go_wp2_with (at_builtin; go_must (refine wpList_app rfl _ _ _ _ rfl _ _ rfl rfl (ChRH lo w (.slice none 0 0) (insH [] 0 x)) (HA.out TLH) ?_))
    all_goals
      intro v2 w2 hR2
      have HR := Lib.hid hR2
      clear hR2
      go_wp2
      go_ret
      exact ⟨_, rfl, HR.out⟩
  · have hne' : X ≠ G := fun e => hne (by rw [e]; rfl)
    have hf : ∀ w', Fp (fun j => j = G) w w' → Fp (fun k => (Value.slice (some ⟨G, 0, none⟩) l.length cap).ownBlock = some k) w w' := fun w' f => f.mono (fun k hk => by rw [hk]; rfl)
    by_cases h0 : 0 < l.length
    · refine (Insert_cH h1 k hk hX hne' hl h0).mono ?_
      rintro e w' ⟨v', rfl, hR⟩
      obtain ⟨G', cap', rfl, a1, a2, a3⟩ := hR.ex
      refine ⟨_, rfl, ?_, hf w' a3, fun k hk => by rcases a2 with e | e <;> (simp only [Value.ownBlock, Option.some.injEq] at hk ⊢; omega)⟩
      have := OwH.row (lo := lo) a1 (by rcases a2 with e | e <;> omega)
      rwa [ins_lengthH] at this
    · obtain rfl : l = [] := List.eq_nil_of_length_eq_zero (by omega)
      obtain rfl : k = 0 := by simpa using hk
      have hap : ∀ ty, ∃ v' w', (Builtin.append_ #[TLH, TLH] ty #[.slice (some ⟨G, 0, none⟩) 0 cap, .slice (some ⟨X, 0, none⟩) 1 1]).run Try.prog w = .ok v' w' ∧ ChRH lo w (.slice (some ⟨G, 0, none⟩) 0 cap) (insH [] 0 x) v' w' := fun ty => by
        obtain ⟨v', w', hr, ho, hg, hn8⟩ := app_ownH w lo (.slice (some ⟨G, 0, none⟩) 0 cap) [] [x] ty ⟨X, 0, none⟩ 1 1 h rfl (fun i hi j u hu => by
          have hi0 : i = 0 := by simp at hi; omega
          subst hi0
          have := hnd.get j u hu
          rwa [show 0 * 3 + j = j from by omega]) (by simp) hlo
        exact ⟨v', w', hr, ho, (Fp.refl _ w).grown hg (fun k hk => .inl hk), hn8⟩
      have HA := Lib.hid hap
      have hm := h1.most
      unfold maxLen at hm
      clear hap h hk hX hnd hl h1 hf h0
      simp only [List.length_nil]
      go_enter Try.func53, Try.ntmps53
      go_wp2_with (at_builtin; go_must (refine wpList_app rfl _ _ _ _ rfl _ _ rfl rfl (ChRH lo w (.slice (some ⟨G, 0, none⟩) 0 cap) (insH [] 0 x)) (HA.out TLH) ?_))
      all_goals
        intro v2 w2 hR2
        have HR := Lib.hid hR2
        clear hR2
        go_wp2
        go_ret
        exact ⟨_, rfl, HR.out⟩
/-- A hold stored into a row. -/
theorem rows_setH (l : List Hl) (i : Nat) (hi : i < l.length) (x : Hl) (rest : List Value) : (((rowsH l ++ rest).set (i * 3) (strV x.d)).set (i * 3 + 1) (.int .i64 x.t)).set (i * 3 + 2) (.int .i64 x.a) = rowsH (l.set i x) ++ rest := by
  induction l generalizing i with
  | nil => simp at hi
  | cons a l ih =>
    cases i with
    | zero => rw [List.set_cons_zero, rowsH_cons, rowsH_cons]; simp [hlC]
    | succ i =>
      rw [List.set_cons_succ, rowsH_cons, rowsH_cons, List.append_assoc, List.append_assoc, ← ih i (by simpa using hi)]
      simp only [show (i + 1) * 3 = 3 + i * 3 from by omega, show ∀ j, 3 + i * 3 + j = 3 + (i * 3 + j) from fun j => by omega]
      have e : ∀ (j : Nat) (v : Value) (m : List Value), (hlC a ++ m).set (3 + j) v = hlC a ++ m.set j v := fun j v m => by
        rw [List.set_append_right _ _ (by rw [hlC_len]; omega), hlC_len, Nat.add_sub_cancel_left]
      rw [e, e, e]
theorem NrH.put {w : World} {G cap : Nat} {l : List Hl} (h : NrH w G cap l) (i : Nat) (hi : i < l.length) (x : Hl) :
    NrH (((w.setCell ⟨G, i * 3, none⟩ (strV x.d)).setCell ⟨G, i * 3 + 1, none⟩ (.int .i64 x.t)).setCell ⟨G, i * 3 + 2, none⟩ (.int .i64 x.a)) G cap (l.set i x) := by
  obtain ⟨rest, hg, hrl⟩ := h.ex
  have h1 := heap_setCell_same w G (i * 3) _ TH (strV x.d) hg
  have h2 := heap_setCell_same _ G (i * 3 + 1) _ TH (.int .i64 x.t) h1
  have h3 := heap_setCell_same _ G (i * 3 + 2) _ TH (.int .i64 x.a) h2
  refine ⟨⟨rest, ?_, by rw [List.length_set]; exact hrl⟩, by rw [List.length_set]; exact h.room, h.most⟩
  rw [h3, ← rows_setH l i hi x rest]
  simp [List.setIfInBounds_toArray]
theorem fp_putH {S : Nat → Prop} {a w : World} (f : Fp S a w) {b : Nat} (hb : S b ∨ a.heap.size ≤ b) (o : Nat) (v0 v1 v2 : Value) :
    Fp S a (((w.setCell ⟨b, o, none⟩ v0).setCell ⟨b, o + 1, none⟩ v1).setCell ⟨b, o + 2, none⟩ v2) :=
  ((f.setCell (p := ⟨b, o, none⟩) hb v0).setCell (p := ⟨b, o + 1, none⟩) hb v1).setCell (p := ⟨b, o + 2, none⟩) hb v2
theorem box3H (w : World) (x : Hl) : (w.alloc (.cells #[strV x.d, .int .i64 x.t, .int .i64 x.a] TH)).cell? ⟨w.heap.size, 0, none⟩ = some (strV x.d) ∧ (w.alloc (.cells #[strV x.d, .int .i64 x.t, .int .i64 x.a] TH)).cell? ⟨w.heap.size, 1, none⟩ = some (.int .i64 x.t) ∧ (w.alloc (.cells #[strV x.d, .int .i64 x.t, .int .i64 x.a] TH)).cell? ⟨w.heap.size, 2, none⟩ = some (.int .i64 x.a) := by
  have h := heap_alloc_new w (.cells #[strV x.d, .int .i64 x.t, .int .i64 x.a] TH)
  exact ⟨by rw [cell_of_row _ _ _ _ _ _ h]; rfl, by rw [cell_of_row _ _ _ _ _ _ h]; rfl, by rw [cell_of_row _ _ _ _ _ _ h]; rfl⟩

end Go.Proofs.Ytcjpgenlhphapaa
