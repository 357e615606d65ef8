/- Texts of this proof, merged. -/
import Derived.Test.YtdfnfkknbjageaaZB
set_option linter.unusedVariables false
set_option linter.unusedSimpArgs false
/- slices.Insert at mounts; a mount stored into a row (gen_b.py) -/
namespace Go.Proofs.Ytdfnfkknbjageaa
set_option maxRecDepth 20000
set_option linter.unusedVariables false
set_option linter.unusedSimpArgs false
open Go.RowKit Pm

/-- One more, at a place. -/
def insM (l : List Mt) (k : Nat) (x : Mt) : List Mt := l.take k ++ x :: l.drop k
theorem ins_lengthM (l : List Mt) (k : Nat) (x : Mt) : (insM l k x).length = l.length + 1 := by
  unfold insM; simp only [List.length_append, List.length_take, List.length_drop, List.length_cons, List.length_nil]; omega
/-- Behind a copy into a row. -/
structure CopRM (G cap : Nat) (cur : List Value) (w w' : World) : Prop where
  hp : w'.heap[G]? = some (.cells cur.toArray TM (0, 0))
  len : cur.length = cap * 4
  fp : Fp (fun k => k = G) w w'

theorem copy_atM {w : World} {G cap : Nat} {cur : List Value} (hg : w.heap[G]? = some (.cells cur.toArray TM (0, 0))) (hl : cur.length = cap * 4) (ty : TypeId) (o dLen dCap : Nat) (a : Addr) (sLen sCap : Nat) (l : List Mt) (hm : l.length = Nat.min sLen dLen)
    (hsrc : ∀ i (h : i < l.length) j v, (mtC l[i])[j]? = some v → w.cell? (a.add (i * 4 + j)) = some v) (hfit : o + l.length * 4 ≤ cap * 4) :
    ∃ v' w', (Builtin.copy_ #[TLM, TLM] ty #[.slice (some ⟨G, o, none⟩) dLen dCap, .slice (some a) sLen sCap]).run Try.prog w = .ok v' w' ∧ CopRM G cap (cur.take o ++ rowsM l ++ cur.drop (o + l.length * 4)) w w' := by
  have h := run_copy_nodesM w ty G o dLen dCap a sLen sCap cur l.length (rowsM l) hg hm (rowsM_len l) (fun j v hv => by
    have hj : j < l.length * 4 := by rw [← rowsM_len]; exact (List.getElem?_eq_some_iff.1 hv).1
    have hd : j / 4 < l.length := by omega
    have e : j / 4 * 4 + j % 4 = j := by omega
    rw [← e, rowsM_get l (j / 4) (j % 4) hd (by omega)] at hv
    have := hsrc (j / 4) hd (j % 4) v hv
    rwa [e] at this) (by rw [rowsM_len, hl]; exact hfit) (rowsM_one l)
  rw [rowsM_len] at h
  refine ⟨_, _, h, setRow_heap w G _ _ TM _ hg, ?_, fp_setRow w G _⟩
  simp only [List.length_append, List.length_take, List.length_drop, rowsM_len, hl]
  omega

theorem NrM.src {w : World} {G cap : Nat} {l : List Mt} (h : NrM w G cap l) (k : Nat) : ∀ i (hi : i < (l.drop k).length) j v, (mtC (l.drop k)[i])[j]? = some v → w.cell? ((⟨G, k * 4, none⟩ : Addr).add (i * 4 + j)) = some v := by
  intro i hi j v hv
  rw [List.length_drop] at hi
  rw [List.getElem_drop] at hv
  have hj : j < 4 := by have := (List.getElem?_eq_some_iff.1 hv).1; simpa [mtC] using this
  rw [Addr.add_lit, show k * 4 + (i * 4 + j) = (k + i) * 4 + j from by omega, h.cell (k + i) j (by omega) hj, hv]

/-- What the two copies leave. -/
theorem ins_cellsM (l : List Mt) (k : Nat) (hk : k ≤ l.length) (x : Mt) (cur : List Value) (h1 : cur.take (k * 4) = rowsM (l.take k)) (h2 : (l.length + 1) * 4 ≤ cur.length) :
    ∃ rest, ((cur.take ((k + 1) * 4) ++ rowsM (l.drop k) ++ cur.drop ((k + 1) * 4 + (l.drop k).length * 4)).take (k * 4) ++ rowsM [x] ++ (cur.take ((k + 1) * 4) ++ rowsM (l.drop k) ++ cur.drop ((k + 1) * 4 + (l.drop k).length * 4)).drop (k * 4 + [x].length * 4)) = rowsM (insM l k x) ++ rest ∧
      (l.length + 1) * 4 + rest.length = cur.length := by
  refine ⟨cur.drop ((k + 1) * 4 + (l.drop k).length * 4), ?_, ?_⟩
  · have e1 : (cur.take ((k + 1) * 4)).length = (k + 1) * 4 := by rw [List.length_take]; omega
    have e2 : (cur.take ((k + 1) * 4) ++ rowsM (l.drop k) ++ cur.drop ((k + 1) * 4 + (l.drop k).length * 4)).take (k * 4) = rowsM (l.take k) := by
      rw [List.append_assoc, List.take_append_of_le_length (by rw [e1]; omega), List.take_take, Nat.min_eq_left (by omega), h1]
    have e3 : (cur.take ((k + 1) * 4) ++ rowsM (l.drop k) ++ cur.drop ((k + 1) * 4 + (l.drop k).length * 4)).drop (k * 4 + [x].length * 4) = rowsM (l.drop k) ++ cur.drop ((k + 1) * 4 + (l.drop k).length * 4) := by
      rw [List.append_assoc, List.drop_append, List.drop_of_length_le (by rw [e1]; simp; omega), e1, show k * 4 + [x].length * 4 - (k + 1) * 4 = 0 from by simp; omega]
      rfl
    rw [e2, e3, insM, rowsM_app]
    simp [rowsM, List.append_assoc]
  · simp only [List.length_drop]; omega

set_option maxHeartbeats 40000000 in
theorem Insert_midM {w : World} {G cap X : Nat} {l : List Mt} {x : Mt} (h : NrM w G cap l) (k : Nat) (hk : k < l.length) (hroom : l.length + 1 ≤ cap) (hX : NdAtM w X 0 x) (hne : X ≠ G) (hl : l.length ≤ 40000) (hfr : w.heap[X]? = some (.cells (mtC x).toArray TM (0, 0))) :
    Calls Try.prog 79 #[.slice (some ⟨G, 0, none⟩) l.length cap, .int .i64 (k : Int), .slice (some ⟨X, 0, none⟩) 1 1] w fun e w' => e = .returned (.slice (some ⟨G, 0, none⟩) (l.length + 1) cap) ∧ NrM w' G cap (insM l k x) ∧ Fp (fun j => j = G) w w' := by
  have hm := h.most
  unfold maxLen at hm
  obtain ⟨n, hn⟩ : ∃ n, n = l.length := ⟨_, rfl⟩
  have q1 : ((k : Int) == (n : Int)) = false := beq_eq_false_iff_ne.2 (by omega)
  have q2 : ((cap : Int) < (n : Int) + 1) = False := eq_false (by omega)
  have hkn : k < n := by omega
  have hn6 : n ≤ 40000 := by omega
  have hcn : n + 1 ≤ cap := by omega
  have wk : IntKind.i64.wrap ((k : Int) + 1) = ((k + 1 : Nat) : Int) := by rw [IntKind.wrap_i64]; omega
  have r1 : (cap = k + 1) = False := eq_false (by omega)
  have r2 : (cap = k) = False := eq_false (by omega)
  have r3 : (((k + 1 : Nat) : Int) ≤ (n : Int) + 1) = True := eq_true (by omega)
  have r4 : (k ≤ n) = True := eq_true (by omega)
  have r5 : ((0 : Int) ≤ ((k + 1 : Nat) : Int)) = True := eq_true (by omega)
  have r7 : ((k : Int) ≤ (n : Int) + 1) = True := eq_true (by omega)
  have r6 : ((0 : Int) ≤ (k : Int) + 1) = True := eq_true (by omega)
  have e5 : n + 1 - (k + 1) = n - k := by omega
  obtain ⟨rest, hgr, hrl⟩ := h.ex
  have hd : NrM w.drew G cap l := h.keep ((Fp.refl Non w).drew) (fun h => h)
  have hlc : (rowsM l ++ rest).length = cap * 4 := by rw [List.length_append, rowsM_len]; omega
  have hc1 : ∀ ty, ∃ v' w', (Builtin.copy_ #[TLM, TLM] ty #[.slice (some ⟨G, (k + 1) * 4, none⟩) (n - k) (cap - (k + 1)), .slice (some ⟨G, k * 4, none⟩) (n + 1 - k) (cap - k)]).run Try.prog w.drew = .ok v' w' ∧ CopRM G cap ((rowsM l ++ rest).take ((k + 1) * 4) ++ rowsM (l.drop k) ++ (rowsM l ++ rest).drop ((k + 1) * 4 + (l.drop k).length * 4)) w.drew w' := fun ty =>
    copy_atM (w := w.drew) hgr hlc ty ((k + 1) * 4) (n - k) (cap - (k + 1)) ⟨G, k * 4, none⟩ (n + 1 - k) (cap - k) (l.drop k) (by rw [List.length_drop, ← hn]; simp only [Nat.min_def]; split <;> omega) (hd.src k) (by rw [List.length_drop]; omega)
  have HC1 := Lib.hid hc1
  have HX := Lib.hid (And.intro hX hne)
  have HX2 := Lib.hid (And.intro (show (rowsM l ++ rest).take (k * 4) = rowsM (l.take k) by rw [List.take_append_of_le_length (by rw [rowsM_len]; omega), rowsM_take]) (show (l.length + 1) * 4 ≤ (rowsM l ++ rest).length by rw [hlc]; omega))
  have HX3 := Lib.hid (And.intro hlc h.most)
  have hov : ∀ o lb cb, (callFunc 83 #[.slice (some ⟨X, 0, none⟩) 1 1, .slice (some ⟨G, o, none⟩) lb cb]).run Try.prog w = .ok (.value (.bool false)) w := fun o lb cb => by
    obtain ⟨r, hg, hr⟩ := h.ex
    rw [run_callFunc_extern Try.func83 (by kernel_rfl) (by kernel_rfl) (by kernel_rfl) (e := Extern.SlicesOverlaps.overlaps #[TLM, TLM] #[4]) (by kernel_rfl),
      Lib.run_overlaps_apart w TLM 4 TM Try.underlying22 4 szNM ⟨X, 0, none⟩ ⟨G, o, none⟩ 1 1 lb cb hne TM TM 4 (cap * 4) (by simp [World.shape?, hfr, mtC]) (by simp [World.shape?, hg, rowsM_len]; omega) (by omega) (by simp [World.frozen?, hfr]) (by simp [World.frozen?, hfr])]
    rfl
  rw [← hn]
  have HN := Lib.hid hn
  clear hn
  go_enter Try.func79, Try.ntmps79
  clear h hX hfr hc1 hd hlc hgr hrl
  go_wp2_with (simp only [hov])
  go_region_law ((refine step_copy rfl _ _ TLM TLM rfl (.slice (some ⟨G, (k + 1) * 4, none⟩) (n - k) (cap - (k + 1))) (.slice (some ⟨G, k * 4, none⟩) (n + 1 - k) (cap - k)) (by simp [Act.eval, Act.put]) (by simp [Act.eval, Act.put]) (fun _ w' => CopRM G cap _ w.drew w') (HC1.out _) ?_; intro v1 w1 hR1))
  have hX1 : NdAtM w1 X 0 x := (HX.out.1.keep ((Fp.refl Non w).drew) (fun h => h)).keep hR1.fp HX.out.2
  have hc2 := fun ty => copy_atM hR1.hp hR1.len ty (k * 4) (n + 1 - k) (cap - k) ⟨X, 0, none⟩ 1 1 [x] (by simp only [Nat.min_def, List.length_cons, List.length_nil]; split <;> omega) (fun i hi j v hv => by
    have hi0 : i = 0 := by simp at hi; omega
    subst hi0
    have := hX1.get j v hv
    rwa [show 0 * 4 + j = j from by omega]) (by simp; omega)
  have HC2 := Lib.hid hc2
  have HF1 := Lib.hid (((Fp.refl Non w).drew.any (S := fun j => j = G)).same hR1.fp)
  clear hR1 hX1 hc2
  go_wp2_with fail
  obtain ⟨v2, w2, hr, hR2⟩ := HC2.out 3
  rw [hr]
  simp only [Result.andThen]
  rw [Oper.upon_value]
  clear hr
  obtain ⟨rest2, he, hl2⟩ := ins_cellsM l k (by have := HN.out; omega) x (rowsM l ++ rest) HX2.out.1 HX2.out.2
  have hrow : NrM w2 G cap (insM l k x) := by
    refine ⟨⟨rest2, ?_, ?_⟩, ?_, HX3.out.2⟩
    · have := hR2.hp; rw [he] at this; exact this
    · rw [ins_lengthM]; have := HX3.out.1; omega
    · rw [ins_lengthM]; have := HN.out; omega
  have HR := Lib.hid (And.intro hrow (HF1.out.same hR2.fp))
  clear hR2 he hl2 hrow
  go_wp2
  go_ret
  exact ⟨rfl, HR.out.1, HR.out.2⟩

/-- A row that came of another one, or is new. -/
structure InsRM (w : World) (G n : Nat) (l : List Mt) (v' : Value) (w' : World) : Prop where
  ex : ∃ G' cap', v' = .slice (some ⟨G', 0, none⟩) n cap' ∧ NrM w' G' cap' l ∧ (G' = G ∨ w.heap.size ≤ G') ∧ Fp (fun j => j = G) w w'

set_option maxHeartbeats 2000000 in
theorem Insert_endM {w : World} {G cap X : Nat} {l : List Mt} {x : Mt} (h : NrM w G cap l) (hX : NdAtM w X 0 x) (hl : l.length ≤ 40000) (h0 : 0 < l.length) :
    Calls Try.prog 79 #[.slice (some ⟨G, 0, none⟩) l.length cap, .int .i64 (l.length : Int), .slice (some ⟨X, 0, none⟩) 1 1] w fun e w' => ∃ v', e = .returned v' ∧ InsRM w G (l.length + 1) (l ++ [x]) v' w' := by
  have hap : ∀ ty, ∃ v' w', (Builtin.append_ #[TLM, TLM] ty #[.slice (some ⟨G, 0, none⟩) l.length cap, .slice (some ⟨X, 0, none⟩) 1 1]).run Try.prog w = .ok v' w' ∧ InsRM w G (l.length + 1) (l ++ [x]) v' w' := fun ty => by
    obtain ⟨G', cap', w', hr, h1, _, h2, h3⟩ := app_nodesM w 0 _ l [x] ty X 0 1 1 (h.owns (Nat.zero_le _)) rfl (fun i hi => by
      have hi0 : i = 0 := by simp at hi; omega
      subst hi0; exact hX) (by simp; omega) (Nat.zero_le _) (by omega)
    refine ⟨_, w', hr, ⟨G', cap', rfl, h1, ?_, (Fp.refl _ w).grown h2 (fun k hk => .inl (by simp [Value.ownBlock] at hk; exact hk.symm))⟩⟩
    rcases h3 with h3 | h3
    · left; simp [Value.ownBlock] at h3; exact h3.symm
    · exact .inr h3
  have hm := h.most
  have hr := h.room
  unfold maxLen at hm
  generalize l.length = n at *
  have HA := Lib.hid hap
  have hn1 : (0 : Int) ≤ (n : Int) := by omega
  clear hap h hX
  go_enter Try.func79, Try.ntmps79
  go_wp2_with (at_builtin; go_must (refine wpList_app rfl _ _ _ _ rfl _ _ rfl rfl (InsRM w G (n + 1) (l ++ [x])) (HA.out TLM) ?_))
  all_goals
    intro v2 w2 hR2
    have HR := Lib.hid hR2
    obtain ⟨G', cap', rfl, _⟩ := hR2.ex
    clear hR2
    go_wp2
    go_ret
    exact ⟨_, rfl, HR.out⟩

structure ZerRM (w : World) (n gc : Nat) (W1 : World) (v' : Value) (w' : World) : Prop where
  v : v' = .slice (some ⟨w.heap.size, 0, none⟩) (n + 1) gc
  w : w' = W1
theorem zerM {w W1 : World} {n gc k G cap : Nat} {ty : TypeId} (h : ∀ ty, (Builtin.append_ #[TLM, 3] ty #[.slice (some ⟨G, 0, none⟩) k cap, .int .i64 ((n + 1 - k : Nat) : Int)]).run Try.prog w = .ok (.slice (some ⟨w.heap.size, 0, none⟩) (n + 1) gc) W1) :
    ∃ v' w', (Builtin.append_ #[TLM, 3] ty #[.slice (some ⟨G, 0, none⟩) k cap, .int .i64 ((n + 1 - k : Nat) : Int)]).run Try.prog w = .ok v' w' ∧ ZerRM w n gc W1 v' w' := ⟨_, _, h ty, rfl, rfl⟩

theorem grow_cellsM (l : List Mt) (k : Nat) (hk : k ≤ l.length) (x : Mt) (cur : List Value) (h1 : cur.take (k * 4) = rowsM (l.take k)) (h2 : (l.length + 1) * 4 ≤ cur.length) :
    ∃ rest, ((cur.take (k * 4) ++ rowsM [x] ++ cur.drop (k * 4 + [x].length * 4)).take ((k + 1) * 4) ++ rowsM (l.drop k) ++ (cur.take (k * 4) ++ rowsM [x] ++ cur.drop (k * 4 + [x].length * 4)).drop ((k + 1) * 4 + (l.drop k).length * 4)) = rowsM (insM l k x) ++ rest ∧
      (l.length + 1) * 4 + rest.length = cur.length := by
  have e0 : (rowsM (l.take k) ++ rowsM [x]).length = (k + 1) * 4 := by rw [List.length_append, rowsM_len, rowsM_len, List.length_take]; simp; omega
  refine ⟨(cur.take (k * 4) ++ rowsM [x] ++ cur.drop (k * 4 + [x].length * 4)).drop ((k + 1) * 4 + (l.drop k).length * 4), ?_, ?_⟩
  · rw [h1]
    rw [List.take_append_of_le_length (by rw [e0]; omega), List.take_of_length_le (by rw [e0]; omega)]
    congr 1
    rw [insM, rowsM_app]
    simp [rowsM, List.append_assoc]
  · rw [h1, List.length_drop, List.length_append, e0, List.length_drop, List.length_drop]
    simp; omega

set_option maxHeartbeats 40000000 in
theorem Insert_growM {w : World} {G cap X : Nat} {l : List Mt} {x : Mt} (h : NrM w G cap l) (k : Nat) (hk : k < l.length) (hroom : cap < l.length + 1) (hX : NdAtM w X 0 x) (hl : l.length ≤ 40000) :
    Calls Try.prog 79 #[.slice (some ⟨G, 0, none⟩) l.length cap, .int .i64 (k : Int), .slice (some ⟨X, 0, none⟩) 1 1] w fun e w' => ∃ v', e = .returned v' ∧ InsRM w G (l.length + 1) (insM l k x) v' w' := by
  have hm := h.most
  have hcr := h.room
  unfold maxLen at hm
  obtain ⟨n, hn⟩ : ∃ n, n = l.length := ⟨_, rfl⟩
  obtain ⟨i0, hi0, hz0, hzs, hzb⟩ := info_parts Try.infoM
  have hold : (Builtin.firstCells i0.size k (.slice (some ⟨G, 0, none⟩) k cap)).run Try.prog w.drew = .ok (rowsM (l.take k)).toArray w.drew := by
    rw [hzs]
    refine run_firstCells_some w.drew 4 k ⟨G, 0, none⟩ k cap (rowsM (l.take k)) (by rw [rowsM_len, List.length_take]; omega) (fun j v hj => ?_)
    have hj5 : j < k * 4 := by have := (List.getElem?_eq_some_iff.1 hj).1; rw [rowsM_len, List.length_take] at this; omega
    have hd : j / 4 < (l.take k).length := by rw [List.length_take]; omega
    have e : j / 4 * 4 + j % 4 = j := by omega
    rw [← e, rowsM_get _ (j / 4) (j % 4) hd (by omega), List.getElem_take] at hj
    have := h.cell (j / 4) (j % 4) (by omega) (by omega)
    rw [e, hj] at this
    rw [Addr.add_lit, Nat.zero_add]
    exact this
  have hrz : ∀ ty, _ := fun ty => Lib.run_append_grow_zeros w TLM 3 ty TM i0 _ .i64 .i64 Try.underlying22 Try.underlying3 hi0 hz0 (some ⟨G, 0, none⟩) k cap (rowsM (l.take k)) hold (n + 1 - k) (by omega) (by omega) (by omega) (by omega) (by rw [hzb]; omega) (by rw [hzb]; exact growslice_fits (by omega) (by omega))
  rw [show k + (n + 1 - k) = n + 1 from by omega] at hrz
  obtain ⟨gc, hgc⟩ : ∃ gc, gc = grownCap w (n + 1) cap TM := ⟨_, rfl⟩
  have hgl : n + 1 ≤ gc := by rw [hgc]; exact grownCap_ge w (n + 1) cap TM
  have hgm : gc ≤ maxLen := by rw [hgc]; exact grownCap_le_maxLen w (n + 1) cap TM (by unfold maxLen; omega)
  rw [← hgc] at hrz
  obtain ⟨cur, hcur⟩ : ∃ cur : List Value, cur = ((rowsM (l.take k)).toArray ++ Builtin.zeroCells (Value.cells (.agg #[.string ⟨#[]⟩, .int .i64 0, .int .i64 0, .int .i64 0])) (n + 1 - k) ++ Builtin.zeroCells (Value.cells (.agg #[.string ⟨#[]⟩, .int .i64 0, .int .i64 0, .int .i64 0])) (gc - (n + 1))).toList := ⟨_, rfl⟩
  have hcl : cur.length = gc * 4 := by
    rw [hcur, Array.length_toList, Array.size_append, Array.size_append, size_zeroCells, size_zeroCells, List.size_toArray, rowsM_len, List.length_take]
    show min k l.length * 4 + (n + 1 - k) * 4 + (gc - (n + 1)) * 4 = gc * 4
    omega
  have hct : cur.take (k * 4) = rowsM (l.take k) := by
    rw [hcur, Array.toList_append, Array.toList_append, List.append_assoc, List.take_append_of_le_length (by simp [rowsM_len]; omega), List.take_of_length_le (by simp [rowsM_len]; omega)]
  obtain ⟨W1, hW1⟩ : ∃ W1, W1 = w.drew.alloc (.cells cur.toArray TM) := ⟨_, rfl⟩
  have hrz2 : ∀ ty, (Builtin.append_ #[TLM, 3] ty #[.slice (some ⟨G, 0, none⟩) k cap, .int .i64 ((n + 1 - k : Nat) : Int)]).run Try.prog w = .ok (.slice (some ⟨w.heap.size, 0, none⟩) (n + 1) gc) W1 := fun ty => by
    rw [hW1, hcur]; exact hrz ty
  have hf1 : Fp Non w W1 := by rw [hW1]; exact ((Fp.refl Non w).drew).alloc _
  have hg1 : W1.heap[w.heap.size]? = some (.cells cur.toArray TM (0, 0)) := by rw [hW1]; exact heap_alloc_new w.drew _
  have hX1 := hX.keep hf1 (fun h => h)
  have h1 := h.keep hf1 (fun h => h)
  have hGlt := h.lt
  have hc1 : ∀ ty, ∃ v' w', (Builtin.copy_ #[TLM, TLM] ty #[.slice (some ⟨w.heap.size, k * 4, none⟩) (n + 1 - k) (gc - k), .slice (some ⟨X, 0, none⟩) 1 1]).run Try.prog W1 = .ok v' w' ∧ CopRM w.heap.size gc (cur.take (k * 4) ++ rowsM [x] ++ cur.drop (k * 4 + [x].length * 4)) W1 w' := fun ty =>
    copy_atM hg1 hcl ty (k * 4) (n + 1 - k) (gc - k) ⟨X, 0, none⟩ 1 1 [x] (by simp only [Nat.min_def, List.length_cons, List.length_nil]; split <;> omega) (fun i hi j v hv => by
      have hi0 : i = 0 := by simp at hi; omega
      subst hi0
      have := hX1.get j v hv
      rwa [show 0 * 4 + j = j from by omega]) (by simp; omega)
  have q1 : ((k : Int) == (n : Int)) = false := beq_eq_false_iff_ne.2 (by omega)
  have q2 : ((cap : Int) < (n : Int) + 1) = True := eq_true (by omega)
  have hkn : k < n := by omega
  have hn6 : n ≤ 40000 := by omega
  have hcn : cap = n := by omega
  have wk : IntKind.i64.wrap ((k : Int) + 1) = ((k + 1 : Nat) : Int) := by rw [IntKind.wrap_i64]; omega
  have wn : (n : Int) + 1 - (k : Int) = ((n + 1 - k : Nat) : Int) := by omega
  have r1 : (gc = k + 1) = False := eq_false (by omega)
  have r2 : (gc = k) = False := eq_false (by omega)
  have r8 : (cap = k) = False := eq_false (by omega)
  have r3 : (((k + 1 : Nat) : Int) ≤ (n : Int) + 1) = True := eq_true (by omega)
  have r4 : (k ≤ n) = True := eq_true (by omega)
  have r5 : ((0 : Int) ≤ ((k + 1 : Nat) : Int)) = True := eq_true (by omega)
  have r7 : ((k : Int) ≤ (n : Int) + 1) = True := eq_true (by omega)
  have r6 : ((0 : Int) ≤ (k : Int) + 1) = True := eq_true (by omega)
  have r9 : (k ≤ cap) = True := eq_true (by omega)
  have r10 : ((k : Int) ≤ (cap : Int)) = True := eq_true (by omega)
  have e5 : n + 1 - (k + 1) = n - k := by omega
  rw [← hn]
  have HZ := Lib.hid hrz2
  have HC1 := Lib.hid hc1
  have HX := Lib.hid (And.intro hn (And.intro h1 (And.intro hcl (And.intro hct (And.intro hgm (And.intro hgl (And.intro hf1 hGlt)))))))
  unfold maxLen at hgm
  clear hrz2 hc1 hrz hold hn h1 hX1 hg1 hf1 hW1 hcl hct hcur hgc hX h hGlt hcn hk hroom hl hcr hi0 hz0 hzs hzb
  go_enter Try.func79, Try.ntmps79
  go_wp2_with (at_builtin; go_must (refine wpList_app rfl _ _ _ _ rfl _ _ rfl rfl (fun v' w' => ZerRM w n gc W1 v' w') (zerM HZ.out) ?_))
  intro v2 w2 hR2
  obtain ⟨rfl, rfl⟩ := hR2
  go_wp2_with fail
  obtain ⟨v3, w3, hr, hR3⟩ := HC1.out 3
  rw [hr]
  simp only [Result.andThen]
  rw [Oper.upon_value]
  clear hr
  have h3 : NrM w3 G cap l := HX.out.2.1.keep hR3.fp (fun e => by have := HX.out.2.2.2.2.2.2.2; omega)
  have hd3 : NrM w3.drew G cap l := h3.keep ((Fp.refl Non w3).drew) (fun h => h)
  have hl3 := HX.out.1
  have hc2 : ∀ ty, ∃ v' w', (Builtin.copy_ #[TLM, TLM] ty #[.slice (some ⟨w.heap.size, (k + 1) * 4, none⟩) (n - k) (gc - (k + 1)), .slice (some ⟨G, k * 4, none⟩) (n - k) (cap - k)]).run Try.prog w3.drew = .ok v' w' ∧ CopRM w.heap.size gc _ w3.drew w' := fun ty =>
    copy_atM (w := w3.drew) hR3.hp hR3.len ty ((k + 1) * 4) (n - k) (gc - (k + 1)) ⟨G, k * 4, none⟩ (n - k) (cap - k) (l.drop k) (by rw [List.length_drop, ← hl3]; simp only [Nat.min_def]; split <;> omega) (hd3.src k) (by rw [List.length_drop]; omega)
  have HC2 := Lib.hid hc2
  have HF3 := Lib.hid hR3.fp
  clear hR3 h3 hd3 hl3 hc2
  go_wp2_with fail
  go_region_law ((refine step_copy rfl _ _ TLM TLM rfl (.slice (some ⟨w.heap.size, (k + 1) * 4, none⟩) (n - k) (gc - (k + 1))) (.slice (some ⟨G, k * 4, none⟩) (n - k) (cap - k)) (by simp [Act.eval, Act.put]) (by simp [Act.eval, Act.put]) (fun _ w' => CopRM w.heap.size gc _ w3.drew w') (HC2.out _) ?_; intro v4 w4 hR4))
  obtain ⟨rest2, he, hl2⟩ := grow_cellsM l k (by have := HX.out.1; omega) x cur HX.out.2.2.2.1 (by have h1 := HX.out.1; have h2 := HX.out.2.2.1; have h3 := HX.out.2.2.2.2.2.1; omega)
  have hrow : NrM w4 w.heap.size gc (insM l k x) := by
    refine ⟨⟨rest2, ?_, ?_⟩, ?_, HX.out.2.2.2.2.1⟩
    · have := hR4.hp; rw [he] at this; exact this
    · rw [ins_lengthM]; have := HX.out.2.2.1; omega
    · rw [ins_lengthM]; have h1 := HX.out.1; have h3 := HX.out.2.2.2.2.2.1; omega
  have hfp : Fp (fun j => j = G) w w4 := (((HX.out.2.2.2.2.2.2.1.any (S := fun j => j = G)).trans HF3.out (fun k hk => .inr (by rw [hk]; exact Nat.le_refl _))).trans (((Fp.refl Non w3).drew.any (S := fun j => j = w.heap.size)).same hR4.fp) (fun k hk => .inr (by rw [hk]; exact Nat.le_refl _)))
  have HR := Lib.hid (And.intro hrow hfp)
  clear hR4 he hl2 hrow hfp
  go_wp2
  go_ret
  exact ⟨_, rfl, ⟨w.heap.size, gc, rfl, HR.out.1, .inr (Nat.le_refl _), HR.out.2⟩⟩

theorem Insert_cM {w : World} {G cap X : Nat} {l : List Mt} {x : Mt} (h : NrM w G cap l) (k : Nat) (hk : k ≤ l.length) (hX : w.heap[X]? = some (.cells (mtC x).toArray TM (0, 0))) (hne : X ≠ G) (hl : l.length ≤ 40000) (h0 : 0 < l.length) :
    Calls Try.prog 79 #[.slice (some ⟨G, 0, none⟩) l.length cap, .int .i64 (k : Int), .slice (some ⟨X, 0, none⟩) 1 1] w fun e w' => ∃ v', e = .returned v' ∧ InsRM w G (l.length + 1) (insM l k x) v' w' := by
  have hnd : NdAtM w X 0 x := ⟨ by rw [cell_of_row _ _ _ _ _ _ hX]; rfl, by rw [cell_of_row _ _ _ _ _ _ hX]; rfl, by rw [cell_of_row _ _ _ _ _ _ hX]; rfl, by rw [cell_of_row _ _ _ _ _ _ hX]; rfl⟩
  by_cases hkl : k < l.length
  · by_cases hr : l.length + 1 ≤ cap
    · refine (Insert_midM h k hkl hr hnd hne hl hX).mono ?_
      rintro e w' ⟨rfl, h1, h2⟩
      exact ⟨_, rfl, ⟨G, cap, rfl, h1, .inl rfl, h2⟩⟩
    · exact Insert_growM h k hkl (by omega) hnd hl
  · obtain rfl : k = l.length := by omega
    have e : insM l l.length x = l ++ [x] := by unfold insM; simp
    rw [e]
    exact Insert_endM h hnd hl h0

set_option maxHeartbeats 2000000 in
theorem Insert_ownM {lo : Nat} {w : World} {v : Value} {X : Nat} {l : List Mt} {x : Mt} (h : OwM lo w v l) (k : Nat) (hk : k ≤ l.length) (hX : w.heap[X]? = some (.cells (mtC x).toArray TM (0, 0))) (hne : v.ownBlock ≠ some X) (hl : l.length ≤ 40000) (hlo : lo ≤ w.heap.size) :
    Calls Try.prog 79 #[v, .int .i64 (k : Int), .slice (some ⟨X, 0, none⟩) 1 1] w fun e w' => ∃ v', e = .returned v' ∧ ChRM lo w v (insM l k x) v' w' := by
  have hnd : NdAtM w X 0 x := ⟨ by rw [cell_of_row _ _ _ _ _ _ hX]; rfl, by rw [cell_of_row _ _ _ _ _ _ hX]; rfl, by rw [cell_of_row _ _ _ _ _ _ hX]; rfl, by rw [cell_of_row _ _ _ _ _ _ hX]; rfl⟩
  rcases h.ways with ⟨rfl, rfl⟩ | ⟨G, cap, rfl, h1, h2⟩
  · obtain rfl : k = 0 := by simpa using hk
    have hap : ∀ ty, ∃ v' w', (Builtin.append_ #[TLM, TLM] ty #[.slice none 0 0, .slice (some ⟨X, 0, none⟩) 1 1]).run Try.prog w = .ok v' w' ∧ ChRM lo w (.slice none 0 0) (insM [] 0 x) v' w' := fun ty => by
      obtain ⟨v', w', hr, ho, hg, hn8⟩ := app_ownM w lo (.slice none 0 0) [] [x] ty ⟨X, 0, none⟩ 1 1 h rfl (fun i hi j u hu => by
        have hi0 : i = 0 := by simp at hi; omega
        subst hi0
        have := hnd.get j u hu
        rwa [show 0 * 4 + j = j from by omega]) (by simp) hlo
      exact ⟨v', w', hr, ho, (Fp.refl _ w).grown hg (fun k hk => .inl hk), hn8⟩
    have HA := Lib.hid hap
    clear hap h hk hX hnd hl
    go_enter Try.func79, Try.ntmps79
    go_wp2_with (at_builtin; go_must (refine wpList_app rfl _ _ _ _ rfl _ _ rfl rfl (ChRM lo w (.slice none 0 0) (insM [] 0 x)) (HA.out TLM) ?_))
    all_goals
      intro v2 w2 hR2
      have HR := Lib.hid hR2
      clear hR2
      go_wp2
      go_ret
      exact ⟨_, rfl, HR.out⟩
  · have hne' : X ≠ G := fun e => hne (by rw [e]; rfl)
    have hf : ∀ w', Fp (fun j => j = G) w w' → Fp (fun k => (Value.slice (some ⟨G, 0, none⟩) l.length cap).ownBlock = some k) w w' := fun w' f => f.mono (fun k hk => by rw [hk]; rfl)
    by_cases h0 : 0 < l.length
    · refine (Insert_cM h1 k hk hX hne' hl h0).mono ?_
      rintro e w' ⟨v', rfl, hR⟩
      obtain ⟨G', cap', rfl, a1, a2, a3⟩ := hR.ex
      refine ⟨_, rfl, ?_, hf w' a3, fun k hk => by rcases a2 with e | e <;> (simp only [Value.ownBlock, Option.some.injEq] at hk ⊢; omega)⟩
      have := OwM.row (lo := lo) a1 (by rcases a2 with e | e <;> omega)
      rwa [ins_lengthM] at this
    · obtain rfl : l = [] := List.eq_nil_of_length_eq_zero (by omega)
      obtain rfl : k = 0 := by simpa using hk
      have hap : ∀ ty, ∃ v' w', (Builtin.append_ #[TLM, TLM] ty #[.slice (some ⟨G, 0, none⟩) 0 cap, .slice (some ⟨X, 0, none⟩) 1 1]).run Try.prog w = .ok v' w' ∧ ChRM lo w (.slice (some ⟨G, 0, none⟩) 0 cap) (insM [] 0 x) v' w' := fun ty => by
        obtain ⟨v', w', hr, ho, hg, hn8⟩ := app_ownM w lo (.slice (some ⟨G, 0, none⟩) 0 cap) [] [x] ty ⟨X, 0, none⟩ 1 1 h rfl (fun i hi j u hu => by
          have hi0 : i = 0 := by simp at hi; omega
          subst hi0
          have := hnd.get j u hu
          rwa [show 0 * 4 + j = j from by omega]) (by simp) hlo
        exact ⟨v', w', hr, ho, (Fp.refl _ w).grown hg (fun k hk => .inl hk), hn8⟩
      have HA := Lib.hid hap
      have hm := h1.most
      unfold maxLen at hm
      clear hap h hk hX hnd hl h1 hf h0
      simp only [List.length_nil]
      go_enter Try.func79, Try.ntmps79
      go_wp2_with (at_builtin; go_must (refine wpList_app rfl _ _ _ _ rfl _ _ rfl rfl (ChRM lo w (.slice (some ⟨G, 0, none⟩) 0 cap) (insM [] 0 x)) (HA.out TLM) ?_))
      all_goals
        intro v2 w2 hR2
        have HR := Lib.hid hR2
        clear hR2
        go_wp2
        go_ret
        exact ⟨_, rfl, HR.out⟩
/-- A mount stored into a row. -/
theorem rows_setM (l : List Mt) (i : Nat) (hi : i < l.length) (x : Mt) (rest : List Value) : ((((rowsM l ++ rest).set (i * 4) (strV x.d)).set (i * 4 + 1) (.int .i64 x.g)).set (i * 4 + 2) (.int .i64 x.e)).set (i * 4 + 3) (.int .i64 x.t) = rowsM (l.set i x) ++ rest := by
  induction l generalizing i with
  | nil => simp at hi
  | cons a l ih =>
    cases i with
    | zero => rw [List.set_cons_zero, rowsM_cons, rowsM_cons]; simp [mtC]
    | succ i =>
      rw [List.set_cons_succ, rowsM_cons, rowsM_cons, List.append_assoc, List.append_assoc, ← ih i (by simpa using hi)]
      simp only [show (i + 1) * 4 = 4 + i * 4 from by omega, show ∀ j, 4 + i * 4 + j = 4 + (i * 4 + j) from fun j => by omega]
      have e : ∀ (j : Nat) (v : Value) (m : List Value), (mtC a ++ m).set (4 + j) v = mtC a ++ m.set j v := fun j v m => by
        rw [List.set_append_right _ _ (by rw [mtC_len]; omega), mtC_len, Nat.add_sub_cancel_left]
      rw [e, e, e, e]
theorem NrM.put {w : World} {G cap : Nat} {l : List Mt} (h : NrM w G cap l) (i : Nat) (hi : i < l.length) (x : Mt) :
    NrM ((((w.setCell ⟨G, i * 4, none⟩ (strV x.d)).setCell ⟨G, i * 4 + 1, none⟩ (.int .i64 x.g)).setCell ⟨G, i * 4 + 2, none⟩ (.int .i64 x.e)).setCell ⟨G, i * 4 + 3, none⟩ (.int .i64 x.t)) G cap (l.set i x) := by
  obtain ⟨rest, hg, hrl⟩ := h.ex
  have h1 := heap_setCell_same w G (i * 4) _ TM (strV x.d) hg
  have h2 := heap_setCell_same _ G (i * 4 + 1) _ TM (.int .i64 x.g) h1
  have h3 := heap_setCell_same _ G (i * 4 + 2) _ TM (.int .i64 x.e) h2
  have h4 := heap_setCell_same _ G (i * 4 + 3) _ TM (.int .i64 x.t) h3
  refine ⟨⟨rest, ?_, by rw [List.length_set]; exact hrl⟩, by rw [List.length_set]; exact h.room, h.most⟩
  rw [h4, ← rows_setM l i hi x rest]
  simp [List.setIfInBounds_toArray]
theorem fp_putM {S : Nat → Prop} {a w : World} (f : Fp S a w) {b : Nat} (hb : S b ∨ a.heap.size ≤ b) (o : Nat) (v0 v1 v2 v3 : Value) :
    Fp S a ((((w.setCell ⟨b, o, none⟩ v0).setCell ⟨b, o + 1, none⟩ v1).setCell ⟨b, o + 2, none⟩ v2).setCell ⟨b, o + 3, none⟩ v3) :=
  (((f.setCell (p := ⟨b, o, none⟩) hb v0).setCell (p := ⟨b, o + 1, none⟩) hb v1).setCell (p := ⟨b, o + 2, none⟩) hb v2).setCell (p := ⟨b, o + 3, none⟩) hb v3
/-- A mount in a box. -/
def BxM (W : World) (b : Nat) (x : Mt) : Prop := W.heap[b]? = some (.cells #[.string (B x.d), .int .i64 x.g, .int .i64 x.e, .int .i64 x.t] TM (0, 0))
theorem BxM.lt {W : World} {b : Nat} {x : Mt} (h : BxM W b x) : b < W.heap.size := (Array.getElem?_eq_some_iff.1 h).1
theorem BxM.at {W : World} {b : Nat} {x : Mt} (h : BxM W b x) : W.cell? ⟨b, 0, none⟩ = some (.string (B x.d)) ∧ W.cell? ⟨b, 1, none⟩ = some (.int .i64 x.g) ∧ W.cell? ⟨b, 2, none⟩ = some (.int .i64 x.e) ∧ W.cell? ⟨b, 3, none⟩ = some (.int .i64 x.t) :=
  ⟨by rw [cell_of_row _ _ _ _ _ _ h]; rfl, by rw [cell_of_row _ _ _ _ _ _ h]; rfl, by rw [cell_of_row _ _ _ _ _ _ h]; rfl, by rw [cell_of_row _ _ _ _ _ _ h]; rfl⟩
theorem BxM.new (W : World) (x : Mt) : BxM (W.alloc (.cells #[.string (B x.d), .int .i64 x.g, .int .i64 x.e, .int .i64 x.t] TM)) W.heap.size x := heap_alloc_new W _
theorem BxM.non {W W' : World} {b : Nat} {x : Mt} (h : BxM W b x) (f : Fp Non W W') : BxM W' b x := f.heap h (fun h => h)
theorem BxM.nd {W : World} {b : Nat} {x : Mt} (h : BxM W b x) : NdAtM W b 0 x := ⟨h.at.1, h.at.2.1, h.at.2.2.1, h.at.2.2.2⟩

end Go.Proofs.Ytdfnfkknbjageaa

