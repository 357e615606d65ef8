/- slices.Insert at sessions (gen_rows.py) -/
import Derived.Test.YtjdpbieifcjmiaaYv
namespace Go.Proofs.Ytjdpbieifcjmiaa
set_option maxRecDepth 20000
set_option linter.unusedVariables false
set_option linter.unusedSimpArgs false
open Go.RowKit Pm

/-- One more, at a place. -/
def insV (l : List Sv) (k : Nat) (x : Sv) : List Sv := l.take k ++ x :: l.drop k
theorem ins_lengthV (l : List Sv) (k : Nat) (x : Sv) : (insV l k x).length = l.length + 1 := by
  unfold insV; simp only [List.length_append, List.length_take, List.length_drop, List.length_cons, List.length_nil]; omega
/-- Behind a copy into a row. -/
structure CopRV (G cap : Nat) (cur : List Value) (w w' : World) : Prop where
  hp : w'.heap[G]? = some (.cells cur.toArray TV (0, 0))
  len : cur.length = cap * 3
  fp : Fp (fun k => k = G) w w'

theorem copy_atV {w : World} {G cap : Nat} {cur : List Value} (hg : w.heap[G]? = some (.cells cur.toArray TV (0, 0))) (hl : cur.length = cap * 3) (ty : TypeId) (o dLen dCap : Nat) (a : Addr) (sLen sCap : Nat) (l : List Sv) (hm : l.length = Nat.min sLen dLen)
    (hsrc : ∀ i (h : i < l.length) j v, (svC l[i])[j]? = some v → w.cell? (a.add (i * 3 + j)) = some v) (hfit : o + l.length * 3 ≤ cap * 3) :
    ∃ v' w', (Builtin.copy_ #[TLV, TLV] ty #[.slice (some ⟨G, o, none⟩) dLen dCap, .slice (some a) sLen sCap]).run Try.prog w = .ok v' w' ∧ CopRV G cap (cur.take o ++ rowsV l ++ cur.drop (o + l.length * 3)) w w' := by
  have h := run_copy_nodesV w ty G o dLen dCap a sLen sCap cur l.length (rowsV l) hg hm (rowsV_len l) (fun j v hv => by
    have hj : j < l.length * 3 := by rw [← rowsV_len]; exact (List.getElem?_eq_some_iff.1 hv).1
    have hd : j / 3 < l.length := by omega
    have e : j / 3 * 3 + j % 3 = j := by omega
    rw [← e, rowsV_get l (j / 3) (j % 3) hd (by omega)] at hv
    have := hsrc (j / 3) hd (j % 3) v hv
    rwa [e] at this) (by rw [rowsV_len, hl]; exact hfit) (rowsV_one l)
  rw [rowsV_len] at h
  refine ⟨_, _, h, setRow_heap w G _ _ TV _ hg, ?_, fp_setRow w G _⟩
  simp only [List.length_append, List.length_take, List.length_drop, rowsV_len, hl]
  omega

theorem NrV.src {w : World} {G cap : Nat} {l : List Sv} (h : NrV w G cap l) (k : Nat) : ∀ i (hi : i < (l.drop k).length) j v, (svC (l.drop k)[i])[j]? = some v → w.cell? ((⟨G, k * 3, none⟩ : Addr).add (i * 3 + j)) = some v := by
  intro i hi j v hv
  rw [List.length_drop] at hi
  rw [List.getElem_drop] at hv
  have hj : j < 3 := by have := (List.getElem?_eq_some_iff.1 hv).1; simpa [svC] using this
  rw [Addr.add_lit, show k * 3 + (i * 3 + j) = (k + i) * 3 + j from by omega, h.cell (k + i) j (by omega) hj, hv]

/-- What the two copies leave. -/
theorem ins_cellsV (l : List Sv) (k : Nat) (hk : k ≤ l.length) (x : Sv) (cur : List Value) (h1 : cur.take (k * 3) = rowsV (l.take k)) (h2 : (l.length + 1) * 3 ≤ cur.length) :
    ∃ rest, ((cur.take ((k + 1) * 3) ++ rowsV (l.drop k) ++ cur.drop ((k + 1) * 3 + (l.drop k).length * 3)).take (k * 3) ++ rowsV [x] ++ (cur.take ((k + 1) * 3) ++ rowsV (l.drop k) ++ cur.drop ((k + 1) * 3 + (l.drop k).length * 3)).drop (k * 3 + [x].length * 3)) = rowsV (insV l k x) ++ rest ∧
      (l.length + 1) * 3 + rest.length = cur.length := by
  refine ⟨cur.drop ((k + 1) * 3 + (l.drop k).length * 3), ?_, ?_⟩
  · have e1 : (cur.take ((k + 1) * 3)).length = (k + 1) * 3 := by rw [List.length_take]; omega
    have e2 : (cur.take ((k + 1) * 3) ++ rowsV (l.drop k) ++ cur.drop ((k + 1) * 3 + (l.drop k).length * 3)).take (k * 3) = rowsV (l.take k) := by
      rw [List.append_assoc, List.take_append_of_le_length (by rw [e1]; omega), List.take_take, Nat.min_eq_left (by omega), h1]
    have e3 : (cur.take ((k + 1) * 3) ++ rowsV (l.drop k) ++ cur.drop ((k + 1) * 3 + (l.drop k).length * 3)).drop (k * 3 + [x].length * 3) = rowsV (l.drop k) ++ cur.drop ((k + 1) * 3 + (l.drop k).length * 3) := by
      rw [List.append_assoc, List.drop_append, List.drop_of_length_le (by rw [e1]; simp; omega), e1, show k * 3 + [x].length * 3 - (k + 1) * 3 = 0 from by simp; omega]
      rfl
    rw [e2, e3, insV, rowsV_app]
    simp [rowsV, List.append_assoc]
  · simp only [List.length_drop]; omega

set_option maxHeartbeats 40000000 in
theorem Insert_midV {w : World} {G cap X : Nat} {l : List Sv} {x : Sv} (h : NrV w G cap l) (k : Nat) (hk : k < l.length) (hroom : l.length + 1 ≤ cap) (hX : NdAtV w X 0 x) (hne : X ≠ G) (hl : l.length ≤ 40000) (hfr : w.heap[X]? = some (.cells (svC x).toArray TV (0, 0))) :
    Calls Try.prog 47 #[.slice (some ⟨G, 0, none⟩) l.length cap, .int .i64 (k : Int), .slice (some ⟨X, 0, none⟩) 1 1] w fun e w' => e = .returned (.slice (some ⟨G, 0, none⟩) (l.length + 1) cap) ∧ NrV w' G cap (insV l k x) ∧ Fp (fun j => j = G) w w' := by
  have hm := h.most
  unfold maxLen at hm
  obtain ⟨n, hn⟩ : ∃ n, n = l.length := ⟨_, rfl⟩
  have q1 : ((k : Int) == (n : Int)) = false := beq_eq_false_iff_ne.2 (by omega)
  have q2 : ((cap : Int) < (n : Int) + 1) = False := eq_false (by omega)
  have hkn : k < n := by omega
  have hn6 : n ≤ 40000 := by omega
  have hcn : n + 1 ≤ cap := by omega
  have wk : IntKind.i64.wrap ((k : Int) + 1) = ((k + 1 : Nat) : Int) := by rw [IntKind.wrap_i64]; omega
  have r1 : (cap = k + 1) = False := eq_false (by omega)
  have r2 : (cap = k) = False := eq_false (by omega)
  have r3 : (((k + 1 : Nat) : Int) ≤ (n : Int) + 1) = True := eq_true (by omega)
  have r4 : (k ≤ n) = True := eq_true (by omega)
  have r5 : ((0 : Int) ≤ ((k + 1 : Nat) : Int)) = True := eq_true (by omega)
  have r7 : ((k : Int) ≤ (n : Int) + 1) = True := eq_true (by omega)
  have r6 : ((0 : Int) ≤ (k : Int) + 1) = True := eq_true (by omega)
  have e5 : n + 1 - (k + 1) = n - k := by omega
  obtain ⟨rest, hgr, hrl⟩ := h.ex
  have hd : NrV w.drew G cap l := h.keep ((Fp.refl Non w).drew) (fun h => h)
  have hlc : (rowsV l ++ rest).length = cap * 3 := by rw [List.length_append, rowsV_len]; omega
  have hc1 : ∀ ty, ∃ v' w', (Builtin.copy_ #[TLV, TLV] ty #[.slice (some ⟨G, (k + 1) * 3, none⟩) (n - k) (cap - (k + 1)), .slice (some ⟨G, k * 3, none⟩) (n + 1 - k) (cap - k)]).run Try.prog w.drew = .ok v' w' ∧ CopRV G cap ((rowsV l ++ rest).take ((k + 1) * 3) ++ rowsV (l.drop k) ++ (rowsV l ++ rest).drop ((k + 1) * 3 + (l.drop k).length * 3)) w.drew w' := fun ty =>
    copy_atV (w := w.drew) hgr hlc ty ((k + 1) * 3) (n - k) (cap - (k + 1)) ⟨G, k * 3, none⟩ (n + 1 - k) (cap - k) (l.drop k) (by rw [List.length_drop, ← hn]; simp only [Nat.min_def]; split <;> omega) (hd.src k) (by rw [List.length_drop]; omega)
  have HC1 := Lib.hid hc1
  have HX := Lib.hid (And.intro hX hne)
  have HX2 := Lib.hid (And.intro (show (rowsV l ++ rest).take (k * 3) = rowsV (l.take k) by rw [List.take_append_of_le_length (by rw [rowsV_len]; omega), rowsV_take]) (show (l.length + 1) * 3 ≤ (rowsV l ++ rest).length by rw [hlc]; omega))
  have HX3 := Lib.hid (And.intro hlc h.most)
  have hov : ∀ o lb cb, (callFunc 55 #[.slice (some ⟨X, 0, none⟩) 1 1, .slice (some ⟨G, o, none⟩) lb cb]).run Try.prog w = .ok (.value (.bool false)) w := fun o lb cb => by
    obtain ⟨r, hg, hr⟩ := h.ex
    rw [run_callFunc_extern Try.func55 (by kernel_rfl) (by kernel_rfl) (by kernel_rfl) (e := Extern.SlicesOverlaps.overlaps #[TLV, TLV] #[4]) (by kernel_rfl),
      Lib.run_overlaps_apart w TLV 4 TV Try.underlying23 3 szNV ⟨X, 0, none⟩ ⟨G, o, none⟩ 1 1 lb cb hne TV TV 3 (cap * 3) (by simp [World.shape?, hfr, svC]) (by simp [World.shape?, hg, rowsV_len]; omega) (by omega) (by simp [World.frozen?, hfr]) (by simp [World.frozen?, hfr])]
    rfl
  rw [← hn]
  have HN := Lib.hid hn
  clear hn
  go_enter Try.func47, Try.ntmps47
  clear h hX hfr hc1 hd hlc hgr hrl
  go_wp2_with (simp only [hov])
  go_region_law ((refine step_copy rfl _ _ TLV TLV rfl (.slice (some ⟨G, (k + 1) * 3, none⟩) (n - k) (cap - (k + 1))) (.slice (some ⟨G, k * 3, none⟩) (n + 1 - k) (cap - k)) (by simp [Act.eval, Act.put]) (by simp [Act.eval, Act.put]) (fun _ w' => CopRV G cap _ w.drew w') (HC1.out _) ?_; intro v1 w1 hR1))
  have hX1 : NdAtV w1 X 0 x := (HX.out.1.keep ((Fp.refl Non w).drew) (fun h => h)).keep hR1.fp HX.out.2
  have hc2 := fun ty => copy_atV hR1.hp hR1.len ty (k * 3) (n + 1 - k) (cap - k) ⟨X, 0, none⟩ 1 1 [x] (by simp only [Nat.min_def, List.length_cons, List.length_nil]; split <;> omega) (fun i hi j v hv => by
    have hi0 : i = 0 := by simp at hi; omega
    subst hi0
    have := hX1.get j v hv
    rwa [show 0 * 3 + j = j from by omega]) (by simp; omega)
  have HC2 := Lib.hid hc2
  have HF1 := Lib.hid (((Fp.refl Non w).drew.any (S := fun j => j = G)).same hR1.fp)
  clear hR1 hX1 hc2
  go_wp2_with fail
  obtain ⟨v2, w2, hr, hR2⟩ := HC2.out 3
  rw [hr]
  simp only [Result.andThen]
  rw [Oper.upon_value]
  clear hr
  obtain ⟨rest2, he, hl2⟩ := ins_cellsV l k (by have := HN.out; omega) x (rowsV l ++ rest) HX2.out.1 HX2.out.2
  have hrow : NrV w2 G cap (insV l k x) := by
    refine ⟨⟨rest2, ?_, ?_⟩, ?_, HX3.out.2⟩
    · have := hR2.hp; rw [he] at this; exact this
    · rw [ins_lengthV]; have := HX3.out.1; omega
    · rw [ins_lengthV]; have := HN.out; omega
  have HR := Lib.hid (And.intro hrow (HF1.out.same hR2.fp))
  clear hR2 he hl2 hrow
  go_wp2
  go_ret
  exact ⟨rfl, HR.out.1, HR.out.2⟩

/-- A row that came of another one, or is new. -/
structure InsRV (w : World) (G n : Nat) (l : List Sv) (v' : Value) (w' : World) : Prop where
  ex : ∃ G' cap', v' = .slice (some ⟨G', 0, none⟩) n cap' ∧ NrV w' G' cap' l ∧ (G' = G ∨ w.heap.size ≤ G') ∧ Fp (fun j => j = G) w w'

set_option maxHeartbeats 2000000 in
theorem Insert_endV {w : World} {G cap X : Nat} {l : List Sv} {x : Sv} (h : NrV w G cap l) (hX : NdAtV w X 0 x) (hl : l.length ≤ 40000) (h0 : 0 < l.length) :
    Calls Try.prog 47 #[.slice (some ⟨G, 0, none⟩) l.length cap, .int .i64 (l.length : Int), .slice (some ⟨X, 0, none⟩) 1 1] w fun e w' => ∃ v', e = .returned v' ∧ InsRV w G (l.length + 1) (l ++ [x]) v' w' := by
  have hap : ∀ ty, ∃ v' w', (Builtin.append_ #[TLV, TLV] ty #[.slice (some ⟨G, 0, none⟩) l.length cap, .slice (some ⟨X, 0, none⟩) 1 1]).run Try.prog w = .ok v' w' ∧ InsRV w G (l.length + 1) (l ++ [x]) v' w' := fun ty => by
    obtain ⟨G', cap', w', hr, h1, _, h2, h3⟩ := app_nodesV w 0 _ l [x] ty X 0 1 1 (h.owns (Nat.zero_le _)) rfl (fun i hi => by
      have hi0 : i = 0 := by simp at hi; omega
      subst hi0; exact hX) (by simp; omega) (Nat.zero_le _) (by omega)
    refine ⟨_, w', hr, ⟨G', cap', rfl, h1, ?_, (Fp.refl _ w).grown h2 (fun k hk => .inl (by simp [Value.ownBlock] at hk; exact hk.symm))⟩⟩
    rcases h3 with h3 | h3
    · left; simp [Value.ownBlock] at h3; exact h3.symm
    · exact .inr h3
  have hm := h.most
  have hr := h.room
  unfold maxLen at hm
  generalize l.length = n at *
  have HA := Lib.hid hap
  have hn1 : (0 : Int) ≤ (n : Int) := by omega
  clear hap h hX
  go_enter Try.func47, Try.ntmps47
  go_wp2_with (at_builtin; go_must (refine wpList_app rfl _ _ _ _ rfl _ _ rfl rfl (InsRV w G (n + 1) (l ++ [x])) (HA.out TLV) ?_))
  all_goals
    intro v2 w2 hR2
    have HR := Lib.hid hR2
    obtain ⟨G', cap', rfl, _⟩ := hR2.ex
    clear hR2
    go_wp2
    go_ret
    exact ⟨_, rfl, HR.out⟩

structure ZerRV (w : World) (n gc : Nat) (W1 : World) (v' : Value) (w' : World) : Prop where
  v : v' = .slice (some ⟨w.heap.size, 0, none⟩) (n + 1) gc
  w : w' = W1
theorem zerV {w W1 : World} {n gc k G cap : Nat} {ty : TypeId} (h : ∀ ty, (Builtin.append_ #[TLV, 3] ty #[.slice (some ⟨G, 0, none⟩) k cap, .int .i64 ((n + 1 - k : Nat) : Int)]).run Try.prog w = .ok (.slice (some ⟨w.heap.size, 0, none⟩) (n + 1) gc) W1) :
    ∃ v' w', (Builtin.append_ #[TLV, 3] ty #[.slice (some ⟨G, 0, none⟩) k cap, .int .i64 ((n + 1 - k : Nat) : Int)]).run Try.prog w = .ok v' w' ∧ ZerRV w n gc W1 v' w' := ⟨_, _, h ty, rfl, rfl⟩

theorem grow_cellsV (l : List Sv) (k : Nat) (hk : k ≤ l.length) (x : Sv) (cur : List Value) (h1 : cur.take (k * 3) = rowsV (l.take k)) (h2 : (l.length + 1) * 3 ≤ cur.length) :
    ∃ rest, ((cur.take (k * 3) ++ rowsV [x] ++ cur.drop (k * 3 + [x].length * 3)).take ((k + 1) * 3) ++ rowsV (l.drop k) ++ (cur.take (k * 3) ++ rowsV [x] ++ cur.drop (k * 3 + [x].length * 3)).drop ((k + 1) * 3 + (l.drop k).length * 3)) = rowsV (insV l k x) ++ rest ∧
      (l.length + 1) * 3 + rest.length = cur.length := by
  have e0 : (rowsV (l.take k) ++ rowsV [x]).length = (k + 1) * 3 := by rw [List.length_append, rowsV_len, rowsV_len, List.length_take]; simp; omega
  refine ⟨(cur.take (k * 3) ++ rowsV [x] ++ cur.drop (k * 3 + [x].length * 3)).drop ((k + 1) * 3 + (l.drop k).length * 3), ?_, ?_⟩
  · rw [h1]
    rw [List.take_append_of_le_length (by rw [e0]; omega), List.take_of_length_le (by rw [e0]; omega)]
    congr 1
    rw [insV, rowsV_app]
    simp [rowsV, List.append_assoc]
  · rw [h1, List.length_drop, List.length_append, e0, List.length_drop, List.length_drop]
    simp; omega

set_option maxHeartbeats 40000000 in
theorem Insert_growV {w : World} {G cap X : Nat} {l : List Sv} {x : Sv} (h : NrV w G cap l) (k : Nat) (hk : k < l.length) (hroom : cap < l.length + 1) (hX : NdAtV w X 0 x) (hl : l.length ≤ 40000) :
    Calls Try.prog 47 #[.slice (some ⟨G, 0, none⟩) l.length cap, .int .i64 (k : Int), .slice (some ⟨X, 0, none⟩) 1 1] w fun e w' => ∃ v', e = .returned v' ∧ InsRV w G (l.length + 1) (insV l k x) v' w' := by
  have hm := h.most
  have hcr := h.room
  unfold maxLen at hm
  obtain ⟨n, hn⟩ : ∃ n, n = l.length := ⟨_, rfl⟩
  obtain ⟨i0, hi0, hz0, hzs, hzb⟩ := info_parts Try.infoV
  have hold : (Builtin.firstCells i0.size k (.slice (some ⟨G, 0, none⟩) k cap)).run Try.prog w.drew = .ok (rowsV (l.take k)).toArray w.drew := by
    rw [hzs]
    refine run_firstCells_some w.drew 3 k ⟨G, 0, none⟩ k cap (rowsV (l.take k)) (by rw [rowsV_len, List.length_take]; omega) (fun j v hj => ?_)
    have hj5 : j < k * 3 := by have := (List.getElem?_eq_some_iff.1 hj).1; rw [rowsV_len, List.length_take] at this; omega
    have hd : j / 3 < (l.take k).length := by rw [List.length_take]; omega
    have e : j / 3 * 3 + j % 3 = j := by omega
    rw [← e, rowsV_get _ (j / 3) (j % 3) hd (by omega), List.getElem_take] at hj
    have := h.cell (j / 3) (j % 3) (by omega) (by omega)
    rw [e, hj] at this
    rw [Addr.add_lit, Nat.zero_add]
    exact this
  have hrz : ∀ ty, _ := fun ty => Lib.run_append_grow_zeros w TLV 3 ty TV i0 _ .i64 .i64 Try.underlying23 Try.underlying3 hi0 hz0 (some ⟨G, 0, none⟩) k cap (rowsV (l.take k)) hold (n + 1 - k) (by omega) (by omega) (by omega) (by omega) (by rw [hzb]; omega) (by rw [hzb]; exact growslice_fits (by omega) (by omega))
  rw [show k + (n + 1 - k) = n + 1 from by omega] at hrz
  obtain ⟨gc, hgc⟩ : ∃ gc, gc = grownCap w (n + 1) cap TV := ⟨_, rfl⟩
  have hgl : n + 1 ≤ gc := by rw [hgc]; exact grownCap_ge w (n + 1) cap TV
  have hgm : gc ≤ maxLen := by rw [hgc]; exact grownCap_le_maxLen w (n + 1) cap TV (by unfold maxLen; omega)
  rw [← hgc] at hrz
  obtain ⟨cur, hcur⟩ : ∃ cur : List Value, cur = ((rowsV (l.take k)).toArray ++ Builtin.zeroCells (Value.cells (.agg #[.int .i64 0, .int .i64 0, .slice none 0 0])) (n + 1 - k) ++ Builtin.zeroCells (Value.cells (.agg #[.int .i64 0, .int .i64 0, .slice none 0 0])) (gc - (n + 1))).toList := ⟨_, rfl⟩
  have hcl : cur.length = gc * 3 := by
    rw [hcur, Array.length_toList, Array.size_append, Array.size_append, size_zeroCells, size_zeroCells, List.size_toArray, rowsV_len, List.length_take]
    show min k l.length * 3 + (n + 1 - k) * 3 + (gc - (n + 1)) * 3 = gc * 3
    omega
  have hct : cur.take (k * 3) = rowsV (l.take k) := by
    rw [hcur, Array.toList_append, Array.toList_append, List.append_assoc, List.take_append_of_le_length (by simp [rowsV_len]; omega), List.take_of_length_le (by simp [rowsV_len]; omega)]
  obtain ⟨W1, hW1⟩ : ∃ W1, W1 = w.drew.alloc (.cells cur.toArray TV) := ⟨_, rfl⟩
  have hrz2 : ∀ ty, (Builtin.append_ #[TLV, 3] ty #[.slice (some ⟨G, 0, none⟩) k cap, .int .i64 ((n + 1 - k : Nat) : Int)]).run Try.prog w = .ok (.slice (some ⟨w.heap.size, 0, none⟩) (n + 1) gc) W1 := fun ty => by
    rw [hW1, hcur]; exact hrz ty
  have hf1 : Fp Non w W1 := by rw [hW1]; exact ((Fp.refl Non w).drew).alloc _
  have hg1 : W1.heap[w.heap.size]? = some (.cells cur.toArray TV (0, 0)) := by rw [hW1]; exact heap_alloc_new w.drew _
  have hX1 := hX.keep hf1 (fun h => h)
  have h1 := h.keep hf1 (fun h => h)
  have hGlt := h.lt
  have hc1 : ∀ ty, ∃ v' w', (Builtin.copy_ #[TLV, TLV] ty #[.slice (some ⟨w.heap.size, k * 3, none⟩) (n + 1 - k) (gc - k), .slice (some ⟨X, 0, none⟩) 1 1]).run Try.prog W1 = .ok v' w' ∧ CopRV w.heap.size gc (cur.take (k * 3) ++ rowsV [x] ++ cur.drop (k * 3 + [x].length * 3)) W1 w' := fun ty =>
    copy_atV hg1 hcl ty (k * 3) (n + 1 - k) (gc - k) ⟨X, 0, none⟩ 1 1 [x] (by simp only [Nat.min_def, List.length_cons, List.length_nil]; split <;> omega) (fun i hi j v hv => by
      have hi0 : i = 0 := by simp at hi; omega
      subst hi0
      have := hX1.get j v hv
      rwa [show 0 * 3 + j = j from by omega]) (by simp; omega)
  have q1 : ((k : Int) == (n : Int)) = false := beq_eq_false_iff_ne.2 (by omega)
  have q2 : ((cap : Int) < (n : Int) + 1) = True := eq_true (by omega)
  have hkn : k < n := by omega
  have hn6 : n ≤ 40000 := by omega
  have hcn : cap = n := by omega
  have wk : IntKind.i64.wrap ((k : Int) + 1) = ((k + 1 : Nat) : Int) := by rw [IntKind.wrap_i64]; omega
  have wn : (n : Int) + 1 - (k : Int) = ((n + 1 - k : Nat) : Int) := by omega
  have r1 : (gc = k + 1) = False := eq_false (by omega)
  have r2 : (gc = k) = False := eq_false (by omega)
  have r8 : (cap = k) = False := eq_false (by omega)
  have r3 : (((k + 1 : Nat) : Int) ≤ (n : Int) + 1) = True := eq_true (by omega)
  have r4 : (k ≤ n) = True := eq_true (by omega)
  have r5 : ((0 : Int) ≤ ((k + 1 : Nat) : Int)) = True := eq_true (by omega)
  have r7 : ((k : Int) ≤ (n : Int) + 1) = True := eq_true (by omega)
  have r6 : ((0 : Int) ≤ (k : Int) + 1) = True := eq_true (by omega)
  have r9 : (k ≤ cap) = True := eq_true (by omega)
  have r10 : ((k : Int) ≤ (cap : Int)) = True := eq_true (by omega)
  have e5 : n + 1 - (k + 1) = n - k := by omega
  rw [← hn]
  have HZ := Lib.hid hrz2
  have HC1 := Lib.hid hc1
  have HX := Lib.hid (And.intro hn (And.intro h1 (And.intro hcl (And.intro hct (And.intro hgm (And.intro hgl (And.intro hf1 hGlt)))))))
  unfold maxLen at hgm
  clear hrz2 hc1 hrz hold hn h1 hX1 hg1 hf1 hW1 hcl hct hcur hgc hX h hGlt hcn hk hroom hl hcr hi0 hz0 hzs hzb
  go_enter Try.func47, Try.ntmps47
  go_wp2_with (at_builtin; go_must (refine wpList_app rfl _ _ _ _ rfl _ _ rfl rfl (fun v' w' => ZerRV w n gc W1 v' w') (zerV HZ.out) ?_))
  intro v2 w2 hR2
  obtain ⟨rfl, rfl⟩ := hR2
  go_wp2_with fail
  obtain ⟨v3, w3, hr, hR3⟩ := HC1.out 3
  rw [hr]
  simp only [Result.andThen]
  rw [Oper.upon_value]
  clear hr
  have h3 : NrV w3 G cap l := HX.out.2.1.keep hR3.fp (fun e => by have := HX.out.2.2.2.2.2.2.2; omega)
  have hd3 : NrV w3.drew G cap l := h3.keep ((Fp.refl Non w3).drew) (fun h => h)
  have hl3 := HX.out.1
  have hc2 : ∀ ty, ∃ v' w', (Builtin.copy_ #[TLV, TLV] ty #[.slice (some ⟨w.heap.size, (k + 1) * 3, none⟩) (n - k) (gc - (k + 1)), .slice (some ⟨G, k * 3, none⟩) (n - k) (cap - k)]).run Try.prog w3.drew = .ok v' w' ∧ CopRV w.heap.size gc _ w3.drew w' := fun ty =>
    copy_atV (w := w3.drew) hR3.hp hR3.len ty ((k + 1) * 3) (n - k) (gc - (k + 1)) ⟨G, k * 3, none⟩ (n - k) (cap - k) (l.drop k) (by rw [List.length_drop, ← hl3]; simp only [Nat.min_def]; split <;> omega) (hd3.src k) (by rw [List.length_drop]; omega)
  have HC2 := Lib.hid hc2
  have HF3 := Lib.hid hR3.fp
  clear hR3 h3 hd3 hl3 hc2
  go_wp2_with fail
  go_region_law ((refine step_copy rfl _ _ TLV TLV rfl (.slice (some ⟨w.heap.size, (k + 1) * 3, none⟩) (n - k) (gc - (k + 1))) (.slice (some ⟨G, k * 3, none⟩) (n - k) (cap - k)) (by simp [Act.eval, Act.put]) (by simp [Act.eval, Act.put]) (fun _ w' => CopRV w.heap.size gc _ w3.drew w') (HC2.out _) ?_; intro v4 w4 hR4))
  obtain ⟨rest2, he, hl2⟩ := grow_cellsV l k (by have := HX.out.1; omega) x cur HX.out.2.2.2.1 (by have h1 := HX.out.1; have h2 := HX.out.2.2.1; have h3 := HX.out.2.2.2.2.2.1; omega)
  have hrow : NrV w4 w.heap.size gc (insV l k x) := by
    refine ⟨⟨rest2, ?_, ?_⟩, ?_, HX.out.2.2.2.2.1⟩
    · have := hR4.hp; rw [he] at this; exact this
    · rw [ins_lengthV]; have := HX.out.2.2.1; omega
    · rw [ins_lengthV]; have h1 := HX.out.1; have h3 := HX.out.2.2.2.2.2.1; omega
  have hfp : Fp (fun j => j = G) w w4 := (((HX.out.2.2.2.2.2.2.1.any (S := fun j => j = G)).trans HF3.out (fun k hk => .inr (by rw [hk]; exact Nat.le_refl _))).trans (((Fp.refl Non w3).drew.any (S := fun j => j = w.heap.size)).same hR4.fp) (fun k hk => .inr (by rw [hk]; exact Nat.le_refl _)))
  have HR := Lib.hid (And.intro hrow hfp)
  clear hR4 he hl2 hrow hfp
  go_wp2
  go_ret
  exact ⟨_, rfl, ⟨w.heap.size, gc, rfl, HR.out.1, .inr (Nat.le_refl _), HR.out.2⟩⟩

theorem Insert_cV {w : World} {G cap X : Nat} {l : List Sv} {x : Sv} (h : NrV w G cap l) (k : Nat) (hk : k ≤ l.length) (hX : w.heap[X]? = some (.cells (svC x).toArray TV (0, 0))) (hne : X ≠ G) (hl : l.length ≤ 40000) (h0 : 0 < l.length) :
    Calls Try.prog 47 #[.slice (some ⟨G, 0, none⟩) l.length cap, .int .i64 (k : Int), .slice (some ⟨X, 0, none⟩) 1 1] w fun e w' => ∃ v', e = .returned v' ∧ InsRV w G (l.length + 1) (insV l k x) v' w' := by
  have hnd : NdAtV w X 0 x := ⟨by rw [cell_of_row _ _ _ _ _ _ hX]; rfl, by rw [cell_of_row _ _ _ _ _ _ hX]; rfl, by rw [cell_of_row _ _ _ _ _ _ hX]; rfl⟩
  by_cases hkl : k < l.length
  · by_cases hr : l.length + 1 ≤ cap
    · refine (Insert_midV h k hkl hr hnd hne hl hX).mono ?_
      rintro e w' ⟨rfl, h1, h2⟩
      exact ⟨_, rfl, ⟨G, cap, rfl, h1, .inl rfl, h2⟩⟩
    · exact Insert_growV h k hkl (by omega) hnd hl
  · obtain rfl : k = l.length := by omega
    have e : insV l l.length x = l ++ [x] := by unfold insV; simp
    rw [e]
    exact Insert_endV h hnd hl h0

set_option maxHeartbeats 2000000 in
theorem Insert_ownV {lo : Nat} {w : World} {v : Value} {X : Nat} {l : List Sv} {x : Sv} (h : OwV lo w v l) (k : Nat) (hk : k ≤ l.length) (hX : w.heap[X]? = some (.cells (svC x).toArray TV (0, 0))) (hne : v.ownBlock ≠ some X) (hl : l.length ≤ 40000) (hlo : lo ≤ w.heap.size) :
    Calls Try.prog 47 #[v, .int .i64 (k : Int), .slice (some ⟨X, 0, none⟩) 1 1] w fun e w' => ∃ v', e = .returned v' ∧ ChRV lo w v (insV l k x) v' w' := by
  have hnd : NdAtV w X 0 x := ⟨by rw [cell_of_row _ _ _ _ _ _ hX]; rfl, by rw [cell_of_row _ _ _ _ _ _ hX]; rfl, by rw [cell_of_row _ _ _ _ _ _ hX]; rfl⟩
  rcases h.ways with ⟨rfl, rfl⟩ | ⟨G, cap, rfl, h1, h2⟩
  · obtain rfl : k = 0 := by simpa using hk
    have hap : ∀ ty, ∃ v' w', (Builtin.append_ #[TLV, TLV] ty #[.slice none 0 0, .slice (some ⟨X, 0, none⟩) 1 1]).run Try.prog w = .ok v' w' ∧ ChRV lo w (.slice none 0 0) (insV [] 0 x) v' w' := fun ty => by
      obtain ⟨v', w', hr, ho, hg, hn8⟩ := app_ownV w lo (.slice none 0 0) [] [x] ty ⟨X, 0, none⟩ 1 1 h rfl (fun i hi j u hu => by
        have hi0 : i = 0 := by simp at hi; omega
        subst hi0
        have := hnd.get j u hu
        rwa [show 0 * 3 + j = j from by omega]) (by simp) hlo
      exact ⟨v', w', hr, ho, (Fp.refl _ w).grown hg (fun k hk => .inl hk), hn8⟩
    have HA := Lib.hid hap
    clear hap h hk hX hnd hl
    go_enter Try.func47, Try.ntmps47
    go_wp2_with (at_builtin; go_must (refine wpList_app rfl _ _ _ _ rfl _ _ rfl rfl (ChRV lo w (.slice none 0 0) (insV [] 0 x)) (HA.out TLV) ?_))
    all_goals
      intro v2 w2 hR2
      have HR := Lib.hid hR2
      clear hR2
      go_wp2
      go_ret
      exact ⟨_, rfl, HR.out⟩
  · have hne' : X ≠ G := fun e => hne (by rw [e]; rfl)
    have hf : ∀ w', Fp (fun j => j = G) w w' → Fp (fun k => (Value.slice (some ⟨G, 0, none⟩) l.length cap).ownBlock = some k) w w' := fun w' f => f.mono (fun k hk => by rw [hk]; rfl)
    by_cases h0 : 0 < l.length
    · refine (Insert_cV h1 k hk hX hne' hl h0).mono ?_
      rintro e w' ⟨v', rfl, hR⟩
      obtain ⟨G', cap', rfl, a1, a2, a3⟩ := hR.ex
      refine ⟨_, rfl, ?_, hf w' a3, fun k hk => by rcases a2 with e | e <;> (simp only [Value.ownBlock, Option.some.injEq] at hk ⊢; omega)⟩
      have := OwV.row (lo := lo) a1 (by rcases a2 with e | e <;> omega)
      rwa [ins_lengthV] at this
    · obtain rfl : l = [] := List.eq_nil_of_length_eq_zero (by omega)
      obtain rfl : k = 0 := by simpa using hk
      have hap : ∀ ty, ∃ v' w', (Builtin.append_ #[TLV, TLV] ty #[.slice (some ⟨G, 0, none⟩) 0 cap, .slice (some ⟨X, 0, none⟩) 1 1]).run Try.prog w = .ok v' w' ∧ ChRV lo w (.slice (some ⟨G, 0, none⟩) 0 cap) (insV [] 0 x) v' w' := fun ty => by
        obtain ⟨v', w', hr, ho, hg, hn8⟩ := app_ownV w lo (.slice (some ⟨G, 0, none⟩) 0 cap) [] [x] ty ⟨X, 0, none⟩ 1 1 h rfl (fun i hi j u hu => by
          have hi0 : i = 0 := by simp at hi; omega
          subst hi0
          have := hnd.get j u hu
          rwa [show 0 * 3 + j = j from by omega]) (by simp) hlo
        exact ⟨v', w', hr, ho, (Fp.refl _ w).grown hg (fun k hk => .inl hk), hn8⟩
      have HA := Lib.hid hap
      have hm := h1.most
      unfold maxLen at hm
      clear hap h hk hX hnd hl h1 hf h0
      simp only [List.length_nil]
      go_enter Try.func47, Try.ntmps47
      go_wp2_with (at_builtin; go_must (refine wpList_app rfl _ _ _ _ rfl _ _ rfl rfl (ChRV lo w (.slice (some ⟨G, 0, none⟩) 0 cap) (insV [] 0 x)) (HA.out TLV) ?_))
      all_goals
        intro v2 w2 hR2
        have HR := Lib.hid hR2
        clear hR2
        go_wp2
        go_ret
        exact ⟨_, rfl, HR.out⟩

end Go.Proofs.Ytjdpbieifcjmiaa
