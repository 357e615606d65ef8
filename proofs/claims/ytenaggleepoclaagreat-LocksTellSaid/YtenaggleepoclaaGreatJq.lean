/- slices.SortFunc at holds; others; with (gen_jq.py) -/
import Derived.Test.YtenaggleepoclaaGreatJt
import Derived.Test.YtenaggleepoclaaGreatJb
import Derived.Test.YtenaggleepoclaaGreatJo
import Derived.Test.YtenaggleepoclaaGreatSf
import Derived.Shelf.SlSortCmp.WholeK
import Derived.Shelf.SlSortCmp.NoneTotal
namespace Go.Proofs.YtenaggleepoclaaGreat
set_option maxRecDepth 20000
set_option linter.unusedVariables false
set_option linter.unusedSimpArgs false
open Go.RowKit Pm Go.Sort

def AscWH (l : List Hl) : Prop := ∀ i j (hi : i < l.length) (hj : j < l.length), i < j → lt l[j].d l[i].d = false

instance : Inhabited Hl := ⟨⟨[], 0, 0⟩⟩
def cfN (a b : Hl) : Int := cmpI a.d b.d
theorem cfN_lt (a b : Hl) : ltOf cfN a b = lt a.d b.d := by
  unfold ltOf cfN cmpI
  cases h : lt a.d b.d with
  | true => simp
  | false =>
    simp only [Bool.false_eq_true, if_false]
    split <;> simp
theorem cfN_swo : SWO (ltOf cfN) where
  irrefl x := by rw [cfN_lt]; exact lt_irrefl _
  trans x y z h1 h2 := by rw [cfN_lt] at *; exact lt_trans h1 h2
  ntrans x y z h1 h2 := by
    rw [cfN_lt] at *
    cases h : lt x.d z.d with
    | false => rfl
    | true =>
      have := lt_le_trans h h2
      rw [h1] at this; cases this

theorem putRowsH (l : List Hl) (dk : Array Hl) (rest : List Value) (hs : dk.size = l.length) : putCells id 0 (flatK hlC 3 dk) (rowsH l ++ rest).toArray = (rowsH dk.toList ++ rest).toArray := by
  apply Array.ext
  · simp [putCells, rowsH_len, hs]
  · intro i h1 h2
    simp only [putCells, Array.getElem_mapIdx, List.getElem_toArray, size_flatK, id, Nat.zero_add, Nat.sub_zero, Nat.zero_le, true_and]
    by_cases hi : i < dk.size * 3
    · have h5 : i / 3 < dk.size := by omega
      have h6 := rowsH_get dk.toList (i / 3) (i % 3) (by simpa using h5) (by omega)
      rw [show i / 3 * 3 + i % 3 = i by omega] at h6
      rw [if_pos hi, get_flatK _ _ _ _ hi, List.getElem_append_left (by rw [rowsH_len]; simpa using hi)]
      rw [List.getElem?_eq_getElem (by rw [rowsH_len]; simpa using hi)] at h6
      simp only [Array.getElem_toList] at h6
      rw [getElem!_pos dk (i / 3) h5, List.getElem!_eq_getElem?_getD, ← h6]; rfl
    · rw [if_neg hi, List.getElem_append_right (by rw [rowsH_len]; omega), List.getElem_append_right (by rw [rowsH_len]; simp; omega)]
      simp [rowsH_len, hs]
theorem sort_nrH {w : World} {G cap : Nat} {l : List Hl} (h : NrH w G cap l) (m : Nat) (dk : Array Hl) (os : Array Obj) (hs : dk.size = l.length) : NrH (sortWorldK hlC 3 w G 0 m dk os) G cap dk.toList := by
  obtain ⟨rest, h1, h2⟩ := h.ex
  have hG := h.lt
  refine ⟨⟨rest, ?_, by simp [hs]; omega⟩, by simp [hs]; exact h.room, h.most⟩
  unfold sortWorldK grow putRowK putRow mapBlock Go.Sort.ahead
  simp only
  rw [Array.getElem?_append_left (by simpa using hG), Array.getElem?_modify, if_pos rfl, h1]
  simp only [Option.map_some, onCells]
  rw [putRowsH l dk rest hs]
theorem sort_fp {w : World} {G : Nat} (m : Nat) (dk : Array Hl) (os : Array Obj) : Fp (fun k => k = G) w (sortWorldK hlC 3 w G 0 m dk os) := by
  refine ⟨rfl, rfl, rfl, ?_, fun k hk hS => ?_⟩
  · unfold sortWorldK grow putRowK putRow mapBlock Go.Sort.ahead; simp
  · unfold sortWorldK grow putRowK putRow mapBlock Go.Sort.ahead
    simp only
    rw [Array.getElem?_append_left (by simpa using hk), Array.getElem?_modify, if_neg (fun e => hS e.symm)]
theorem holds_nrH {w : World} {G cap : Nat} {l : List Hl} (h : NrH w G cap l) : HoldsK hlC 3 w G 0 l.toArray := by
  intro j hj
  simp only [size_flatK, List.size_toArray] at hj
  rw [Nat.zero_add]
  refine ⟨?_, h.frozen j⟩
  have h5 : j / 3 < l.length := by omega
  have h6 := h.cell (j / 3) (j % 3) h5 (by omega)
  rw [show j / 3 * 3 + j % 3 = j by omega] at h6
  rw [h6, get_flatK _ _ _ _ (by simpa using hj)]
  simp only [id]
  rw [getElem!_pos l.toArray (j / 3) (by simpa using h5)]
  simp only [List.getElem_toArray]
  rw [List.getElem!_eq_getElem?_getD]
  have h7 : j % 3 < (hlC l[j / 3]).length := by rw [hlC_len]; omega
  rw [List.getElem?_eq_getElem h7]; rfl
theorem sorted_ascW {l : List Hl} {d' : Array Hl} (hs : d'.size = l.length) (h : SortedIn (ltOf cfN) 0 l.length d') : AscWH d'.toList := by
  intro i j hi hj hij
  have hi' : i < d'.size := by simpa using hi
  have hj' : j < d'.size := by simpa using hj
  have := h i j (Nat.zero_le _) hij (by omega)
  rw [cfN_lt, getElem!_pos d' j hj', getElem!_pos d' i hi'] at this
  simpa using this
theorem perm_in {l : List Hl} {d' : Array Hl} (h : PermIn 0 l.toArray.size l.toArray d') : d'.size = l.length ∧ d'.toList.Perm l := by
  obtain ⟨h1, _, h3⟩ := h
  have h1' : d'.size = l.length := by simpa using h1
  refine ⟨h1', ?_⟩
  have e1 : (d'.extract 0 l.toArray.size) = d' := by rw [show l.toArray.size = d'.size by simp [h1']]; simp
  have e2 : (l.toArray.extract 0 l.toArray.size) = l.toArray := by simp
  rw [e1, e2] at h3
  exact h3

set_option maxHeartbeats 1000000 in
theorem withCmp_c (x y : Hl) (W : World) :
    Calls Tryz.prog 58 #[hlV x, hlV y] W fun e w' => e = .returned (.int .i64 (cfN x y)) ∧ ∃ q os', w' = grow (W.drewN q) os' := by
  obtain ⟨d, t, a⟩ := x
  obtain ⟨d', t', a'⟩ := y
  unfold hlV strV cfN
  have hc := fun w => Compare_c d d' w
  have HC := Lib.hid hc
  clear hc
  go_enter Tryz.func58, Tryz.ntmps58
  go_wp2_with fail
  refine (HC.out _).mono ?_
  rintro e w1 ⟨rfl, rfl⟩
  go_wp2
  go_ret
  exact ⟨rfl, 0, _, by rw [alloc_eq_grow, alloc_eq_grow, grow_grow]; rfl⟩

/-- Behind the sort: the same nodes, rising or alike. -/
structure SoR (w : World) (G cap : Nat) (l : List Hl) (w' : World) : Prop where
  ex : ∃ l', NrH w' G cap l' ∧ l'.Perm l ∧ AscWH l'
  fp : Fp (fun k => k = G) w w'

theorem sort_c (w : World) (G cap : Nat) (l : List Hl) (h : NrH w G cap l) (hl : l.length ≤ 1000000) :
    Calls Tryz.prog 57 #[.slice (some ⟨G, 0, none⟩) l.length cap, .func (.func 58) #[] #[]] w fun e w' => e = .returned (.tuple #[]) ∧ SoR w G cap l w' := by
  have eg : ∀ args w, (callFunc 58 args).run Tryz.prog w = .ok (.enter 58 args) w := enters_of Tryz.func58 (by kernel_rfl) rfl
  have hcmp : CmpLays Tryz.prog 58 #[] hlC 3 cfN G 0 l.toArray.size w := fun _ _ _ _ x y => withCmp_c x y _
  have h1 : ∀ x, ∀ v ∈ hlC x, v.oneCell' = true := fun x v hv => by
    simp only [hlC, List.mem_cons, List.not_mem_nil, or_false] at hv
    rcases hv with rfl | rfl | rfl <;> rfl
  have hcon := AnyQ.slices_SortFunc Tryz.sortN 3 Tryz.isAgg41 Tryz.sizeOf41 hlC hlC_len h1 cfN cfN_swo 58 #[] G 0 cap l.toArray w eg hcmp (holds_nrH h) h.lt (by simp; omega)
  simp only [List.size_toArray] at hcon
  refine Calls.mono (show Calls Tryz.prog 57 _ _ _ from hcon) ?_
  rintro e w' ⟨he, d', n, os, hp, hs, rfl⟩
  have hp' : PermIn 0 l.toArray.size l.toArray d' := by simpa using hp
  obtain ⟨k1, k2⟩ := perm_in hp'
  exact ⟨he, ⟨d'.toList, sort_nrH h n d' os k1, k2, sorted_ascW k1 hs⟩, sort_fp n d' os⟩
theorem sort_none (w : World) (fv : Value) :
    Calls Tryz.prog 57 #[.slice none 0 0, fv] w fun e w' => e = .returned (.tuple #[]) ∧ w' = w :=
  AnyF.slices_SortFunc_none Tryz.sortN none 0 fv w

/-- One hold more behind holds of the call's own. -/
theorem app_oneH (w : World) (lo : Nat) (v : Value) (l : List Hl) (x : Hl) (ty : TypeId) (hv : OwH lo w v l) (h6 : l.length ≤ 99999) (hlo : lo ≤ w.heap.size) :
    ∃ v' w', (Builtin.append_ #[TLH, TLH] ty #[v, .slice (some ⟨w.heap.size, 0, none⟩) 1 1]).run Tryz.prog (w.alloc (.cells #[strV x.d, .int .i64 x.t, .int .i64 x.a] TH)) = .ok v' w' ∧ ChRH lo w v (l ++ [x]) v' w' := by
  have hf : Fp Non w (w.alloc (.cells #[strV x.d, .int .i64 x.t, .int .i64 x.a] TH)) := fp_alloc w _
  have hb := heap_alloc_new w (.cells #[strV x.d, .int .i64 x.t, .int .i64 x.a] TH)
  have hsz := hf.size
  obtain ⟨v', w', hr, h1, h2, h3⟩ := app_ownH (w.alloc (.cells #[strV x.d, .int .i64 x.t, .int .i64 x.a] TH)) lo v l [x] ty ⟨w.heap.size, 0, none⟩ 1 1 (hv.non hf) rfl (fun i hi j u hu => by
    have : i = 0 := by simpa using hi
    subst this
    rw [Addr.add_lit, cell_of_row _ _ _ _ _ _ hb]
    rw [show 0 + (0 * 3 + j) = j from by omega]
    simpa [hlC] using hu) (by simp; omega) (Nat.le_trans hlo hf.size)
  refine ⟨v', w', hr, h1, hf.any.grown h2 (fun k hk => .inl hk), fun k hk => ?_⟩
  rcases h3 k hk with h | h
  · exact .inl h
  · exact .inr (Nat.le_trans hsz h)

theorem way_take (l : List Hl) (t : Int) (ds : List Bs) (k : Nat) (h : k < l.length) : wayH (l.take (k + 1)) t ds = wayH (l.take k) t ds ++ (if l[k].d ∈ ds ∧ l[k].t ≠ t then [l[k]] else []) := by
  unfold wayH
  rw [List.take_succ_eq_append_getElem h, List.filter_append]
  congr 1
  by_cases c : l[k].d ∈ ds ∧ l[k].t ≠ t
  · rw [if_pos c, List.filter_cons_of_pos (by rw [decide_eq_true_eq]; exact c)]; rfl
  · rw [if_neg c, List.filter_cons_of_neg (by rw [decide_eq_true_eq]; exact c)]; rfl
set_option maxHeartbeats 4000000 in
theorem others_c (v vd : Value) (l : List Hl) (t : Int) (ds : List Bs) (w : World) (hv : NsH w v l) (hd : Tx w vd ds) (hu : Up ds) (hn : l.length ≤ 90000) (hm : ds.length ≤ 1000000) :
    Calls Tryz.prog 28 #[v, .int .i64 t, vd] w fun e w' => ∃ v', e = .returned v' ∧ HlR w (wayH l t ds) v' w' := by
  obtain ⟨ao, cap, rfl⟩ := hv.shape
  obtain ⟨ad, cd, rfl⟩ := hd.shape
  have hse := fun p W (hW : Tx W (.slice ad ds.length cd) ds) => SearchS_c _ ds p W hW hu hm
  obtain ⟨n, hnn⟩ : ∃ n, n = l.length := ⟨_, rfl⟩
  generalize ds.length = m at *
  have HX := Lib.hid (And.intro hnn (And.intro hv (And.intro hd hse)))
  rw [← hnn]
  have hnb : n ≤ 90000 := by omega
  have H0 : Hid (OwH w.heap.size w (.slice none 0 0) (wayH (l.take 0) t ds) ∧ Fp Non w w) := ⟨OwH.nil _ _, Fp.refl _ _⟩
  clear hv hn hnn hd hu hse hm
  go_enter Tryz.func28, Tryz.ntmps28
  go_wp2_with fail
  go_loopw [7, 14] (fun d i wr => ∃ k : Nat, k ≤ n ∧ i = .int .i64 k ∧ Hid (OwH w.heap.size wr d (wayH (l.take k) t ds) ∧ Fp Non w wr)) (fun _ i _ => n - (RowKit.intOf i).toNat)
  case atStart => exact ⟨0, Nat.zero_le _, rfl, H0⟩
  case round =>
    clear H0
    obtain ⟨k, hk, rfl, hR⟩ := hrel
    rename_i wr _
    by_cases hlt : k < n
    · have hkl : k < l.length := by rw [← HX.out.1]; exact hlt
      obtain ⟨g, o, cap', e, _, _, _, hcell⟩ := HX.out.2.1.at (by omega)
      injection e with e1 e2 e3
      subst e1 e3
      clear e2
      have hnd := (hcell k hkl).keep hR.out.2 (fun h => h)
      have hst := way_take l t ds k hkl
      have hwl : (wayH (l.take k) t ds).length ≤ k := Nat.le_trans (List.length_filter_le _ _) (by rw [List.length_take]; omega)
      obtain ⟨x, hx⟩ : ∃ x, x = l[k] := ⟨_, rfl⟩
      rw [← hx] at hnd hst
      clear hx hcell
      obtain ⟨xd, xt, xa⟩ := x
      have c0 := hnd.c0; have c1 := hnd.c1; have c2 := hnd.c2
      unfold strV at c0
      simp only at c0 c1 c2 hst
      have hbx := heap_alloc_new wr (.cells #[.string (B xd), .int .i64 xt, .int .i64 xa] TH)
      have hfa := fp_alloc wr (.cells #[.string (B xd), .int .i64 xt, .int .i64 xa] TH)
      have q3 : ((k : Int) < (n : Int)) = True := eq_true (by omega)
      have q4 : (k < n) = True := eq_true hlt
      have HB := Lib.hid (And.intro hbx (And.intro hfa (And.intro hlt (And.intro hst hwl))))
      have b0 : (wr.alloc (.cells #[.string (B xd), .int .i64 xt, .int .i64 xa] TH)).cell? ⟨wr.heap.size, 0, none⟩ = some (.string (B xd)) := by rw [cell_of_row _ _ _ _ _ _ hbx]; rfl
      have hsw := HX.out.2.2.2 xd (wr.alloc (.cells #[.string (B xd), .int .i64 xt, .int .i64 xa] TH)) (HX.out.2.2.1.non (hR.out.2.then hfa))
      have HS := Lib.hid hsw
      have hlb := hR.out.1.low
      have HLB := Lib.hid hlb
      clear hnd hkl hbx hfa hst hsw hlt hwl hlb
      go_wp2_with fail
      refine HS.out.mono ?_
      rintro e w1 ⟨⟨z, rfl⟩, hf1⟩
      have r1 := hf1.heap HB.out.1 (fun h => h)
      have p0 : w1.cell? ⟨wr.heap.size, 0, none⟩ = some (.string (B xd)) := by rw [cell_of_row _ _ _ _ _ _ r1]; rfl
      have p1 : w1.cell? ⟨wr.heap.size, 1, none⟩ = some (.int .i64 xt) := by rw [cell_of_row _ _ _ _ _ _ r1]; rfl
      have p2 : w1.cell? ⟨wr.heap.size, 2, none⟩ = some (.int .i64 xa) := by rw [cell_of_row _ _ _ _ _ _ r1]; rfl
      have HF := Lib.hid (HB.out.2.1.then hf1)
      clear r1 hf1 b0
      by_cases hin : xd ∈ ds
      · rw [decide_eq_true hin]
        by_cases hne : xt = t
        · have q5 : (xt == t) = true := beq_iff_eq.2 hne
          have hM : Hid (OwH w.heap.size w1 u7 (wayH (l.take (k + 1)) t ds) ∧ Fp Non w w1) := ⟨by rw [HB.out.2.2.2.1, if_neg (fun h => h.2 hne), List.append_nil]; exact hR.out.1.non HF.out, hR.out.2.then HF.out⟩
          have hkn := HB.out.2.2.1
          clear hne hin
          go_wp2
          go_roundw
          case rel => exact ⟨k + 1, by omega, by go_num, hM⟩
          case measure => simp [RowKit.intOf]; omega
        · have q5 : (xt == t) = false := beq_eq_false_iff_ne.2 hne
          have hap := app_oneH w1 w.heap.size u7 _ ⟨xd, xt, xa⟩ TLH (hR.out.1.non HF.out) (by have := HB.out.2.2.2.2; omega) (hR.out.2.then HF.out).size
          rw [show (⟨xd, xt, xa⟩ : Hl).d = xd from rfl] at hap
          unfold strV at hap
          have HA := Lib.hid hap
          have HN := Lib.hid (And.intro hin hne)
          clear hap hne hin
          go_wp2_with (at_builtin; go_must (refine wpList_app rfl _ _ _ _ rfl _ _ rfl rfl _ HA.out ?_))
          intro v' w' hA
          have hM : Hid (OwH w.heap.size w' v' (wayH (l.take (k + 1)) t ds) ∧ Fp Non w w') := ⟨by rw [HB.out.2.2.2.1, if_pos HN.out]; exact hA.own, (hR.out.2.then HF.out).trans hA.fp (fun j hj => .inr (HLB.out j hj))⟩
          have hkn := HB.out.2.2.1
          clear hA HA
          go_wp2
          go_roundw
          case rel => exact ⟨k + 1, by omega, by go_num, hM⟩
          case measure => simp [RowKit.intOf]; omega
      · rw [decide_eq_false hin]
        have hM : Hid (OwH w.heap.size w1 u7 (wayH (l.take (k + 1)) t ds) ∧ Fp Non w w1) := ⟨by rw [HB.out.2.2.2.1, if_neg (fun h => hin h.1), List.append_nil]; exact hR.out.1.non HF.out, hR.out.2.then HF.out⟩
        have hkn := HB.out.2.2.1
        clear hin
        go_wp2
        go_roundw
        case rel => exact ⟨k + 1, by omega, by go_num, hM⟩
        case measure => simp [RowKit.intOf]; omega
    · have hke : k = n := by omega
      subst hke
      have q3 : ((k : Int) < (k : Int)) = False := eq_false (by omega)
      have hO := hR.out
      rw [HX.out.1, List.take_length] at hO
      have HR : Hid (HlR w (wayH l t ds) u7 wr) := ⟨hO.1, hO.2⟩
      clear hlt hk hO
      go_wp2
      go_ret
      exact ⟨_, rfl, HR.out⟩

/-- What with has made of the first ones. -/
def newH (l : List Hl) (t a : Int) (ds : List Bs) : List Hl := l ++ (ds.filter (fun d => decide (d ∉ l.map Hl.d))).map (fun d => ⟨d, t, a⟩)
theorem newH_take (l : List Hl) (t a : Int) (ds : List Bs) (k : Nat) (h : k < ds.length) : newH l t a (ds.take (k + 1)) = newH l t a (ds.take k) ++ (if ds[k] ∉ l.map Hl.d then [⟨ds[k], t, a⟩] else []) := by
  unfold newH
  rw [List.take_succ_eq_append_getElem h, List.filter_append, List.map_append, List.append_assoc]
  congr 2
  by_cases c : ds[k] ∉ l.map Hl.d
  · rw [if_pos c, List.filter_cons_of_pos (by rw [decide_eq_true_eq]; exact c)]; rfl
  · rw [if_neg c, List.filter_cons_of_neg (by rw [decide_eq_true_eq]; exact c)]; rfl
theorem newH_len (l : List Hl) (t a : Int) (ds : List Bs) : (newH l t a ds).length ≤ l.length + ds.length := by
  unfold newH
  rw [List.length_append, List.length_map]
  exact Nat.add_le_add_left (List.length_filter_le _ _) _
theorem newH_puts {l : List Hl} {t a : Int} {ds : List Bs} (hu : UpH l) (hd : Up ds) (ho : ∀ y ∈ l, y.d ∈ ds → y = ⟨y.d, t, a⟩) {l' : List Hl} (hp : l'.Perm (newH l t a ds)) (ha : AscWH l') : l' = putsH l t a ds := by
  have hnd : (newH l t a ds).Pairwise (fun x y => x.d ≠ y.d) := by
    unfold newH
    rw [List.pairwise_append]
    refine ⟨hu.imp (fun h => lt_ne h), ?_, ?_⟩
    · rw [List.pairwise_map]
      exact (hd.filter _).imp (fun {a b} h => lt_ne h)
    · intro x hx y hy
      obtain ⟨d, hd, rfl⟩ := List.mem_map.1 hy
      have := (List.mem_filter.1 hd).2
      rw [decide_eq_true_eq] at this
      exact fun e => this (List.mem_map.2 ⟨x, hx, e⟩)
  have hnd' : l'.Pairwise (fun x y => x.d ≠ y.d) := (List.Perm.pairwise_iff (fun {a b} h => Ne.symm h) hp).2 hnd
  refine puts_eq hu ho ?_ ?_
  · show List.Pairwise _ _
    rw [List.pairwise_iff_getElem] at hnd' ⊢
    intro i j hi hj hij
    exact lt_of (ha i j hi hj hij) (Ne.symm (hnd' i j hi hj hij))
  · intro x
    rw [hp.mem_iff]
    unfold newH
    rw [List.mem_append, List.mem_map]
    constructor
    · rintro (h | ⟨d, h, rfl⟩)
      · exact .inl h
      · exact .inr ⟨(List.mem_filter.1 h).1, rfl⟩
    · rintro (h | ⟨h, e⟩)
      · exact .inl h
      · by_cases c : x.d ∈ l.map Hl.d
        · obtain ⟨y, hy, e2⟩ := List.mem_map.1 c
          have := ho y hy (by rw [e2]; exact h)
          rw [e2, ← e] at this
          subst this
          exact .inl hy
        · exact .inr ⟨x.d, List.mem_filter.2 ⟨h, by rw [decide_eq_true_eq]; exact c⟩, e.symm⟩
theorem sort_own {lo : Nat} {w : World} {v : Value} {l : List Hl} (h : OwH lo w v l) (hl : l.length ≤ 1000000) :
    Calls Tryz.prog 57 #[v, .func (.func 58) #[] #[]] w fun e w' => e = .returned (.tuple #[]) ∧ ∃ l', OwH lo w' v l' ∧ l'.Perm l ∧ AscWH l' ∧ Fp (fun k => v.ownBlock = some k) w w' := by
  rcases h.ways with ⟨rfl, rfl⟩ | ⟨G, cap, rfl, h1, h2⟩
  · refine (sort_none w _).mono ?_
    rintro e w' ⟨rfl, rfl⟩
    exact ⟨rfl, [], OwH.nil _ _, List.Perm.refl _, fun i j hi => absurd hi (Nat.not_lt_zero i), Fp.refl _ _⟩
  · refine (sort_c w G cap l h1 hl).mono ?_
    rintro e w' ⟨rfl, hR⟩
    obtain ⟨l', h3, h4, h5⟩ := hR.ex
    refine ⟨rfl, l', ?_, h4, h5, hR.fp.mono (fun k hk => by rw [hk]; rfl)⟩
    have := OwH.row h3 h2
    rw [h4.length_eq] at this
    exact this
set_option maxHeartbeats 4000000 in
theorem with_c (v vd : Value) (l : List Hl) (t a : Int) (ds : List Bs) (w : World) (hv : NsH w v l) (hd : Tx w vd ds) (hu : UpH l) (hud : Up ds) (ho : ∀ y ∈ l, y.d ∈ ds → y = ⟨y.d, t, a⟩) (hn : l.length ≤ 30000) (hm : ds.length ≤ 30000) :
    Calls Tryz.prog 31 #[v, .int .i64 t, .int .i64 a, vd] w fun e w' => ∃ v', e = .returned v' ∧ HlR w (putsH l t a ds) v' w' := by
  obtain ⟨ao, cap, rfl⟩ := hv.shape
  obtain ⟨ad, cd, rfl⟩ := hd.shape
  have hpl := fun p W (f : Fp Non w W) => place_c _ l p W (hv.non f) (map_up hu) (by omega)
  have hcl := Clone_ownH _ l w hv (by omega)
  obtain ⟨n, hnn⟩ : ∃ n, n = l.length := ⟨_, rfl⟩
  obtain ⟨m, hmm⟩ : ∃ m, m = ds.length := ⟨_, rfl⟩
  rw [← hnn] at hpl hcl ⊢
  rw [← hmm] at hd ⊢
  have HX := Lib.hid (And.intro hnn (And.intro hmm (And.intro hd (And.intro hu (And.intro hud (And.intro ho hpl))))))
  have HC := Lib.hid hcl
  have hnb : n ≤ 30000 ∧ m ≤ 30000 := by omega
  clear hv hn hnn hd hu hud ho hpl hm hmm hcl
  go_enter Tryz.func31, Tryz.ntmps31
  go_wp2_with fail
  refine HC.out.mono ?_
  rintro e w0 ⟨v0, rfl, hC⟩
  have H0 : Hid (OwH w.heap.size w0 v0 (newH l t a (ds.take 0)) ∧ Fp Non w w0) := ⟨by unfold newH; simpa using hC.own, hC.fp⟩
  clear hC
  go_wp2_with fail
  go_loopw [9, 18] (fun d i wr => ∃ k : Nat, k ≤ m ∧ i = .int .i64 k ∧ Hid (OwH w.heap.size wr d (newH l t a (ds.take k)) ∧ Fp Non w wr)) (fun _ i _ => m - (RowKit.intOf i).toNat)
  case atStart => exact ⟨0, Nat.zero_le _, rfl, H0⟩
  case round =>
    clear H0
    obtain ⟨k, hk, rfl, hR⟩ := hrel
    rename_i wr _
    by_cases hlt : k < m
    · have hkl : k < ds.length := by rw [← HX.out.2.1]; exact hlt
      obtain ⟨g, o, cap', e, hcell⟩ := HX.out.2.2.1.txs (by omega)
      injection e with e1 e2 e3
      subst e1 e3
      clear e2
      have c0 := hR.out.2.cell (hcell k hkl) (fun h => h)
      have hst := newH_take l t a ds k hkl
      have hwl : (newH l t a (ds.take k)).length ≤ n + k := Nat.le_trans (newH_len _ _ _ _) (by rw [List.length_take, ← HX.out.1]; omega)
      obtain ⟨x, hx⟩ : ∃ x, x = ds[k] := ⟨_, rfl⟩
      rw [← hx] at c0 hst
      clear hx hcell
      have q3 : ((k : Int) < (m : Int)) = True := eq_true (by omega)
      have q4 : (k < m) = True := eq_true hlt
      have hsw := HX.out.2.2.2.2.2.2 x wr hR.out.2
      have HB := Lib.hid (And.intro hlt (And.intro hst hwl))
      have HS := Lib.hid hsw
      have hlb := hR.out.1.low
      have HLB := Lib.hid hlb
      clear hkl hst hsw hlt hwl hlb
      by_cases hin : x ∈ l.map Hl.d
      · rw [decide_eq_true hin] at HS
        have HN := Lib.hid hin
        clear hin
        go_wp2_with fail
        refine HS.out.mono ?_
        rintro e w1 ⟨⟨z, rfl⟩, hf1⟩
        have hM : Hid (OwH w.heap.size w1 u9 (newH l t a (ds.take (k + 1))) ∧ Fp Non w w1) := ⟨by rw [HB.out.2.1, if_neg (fun h => h HN.out), List.append_nil]; exact hR.out.1.non hf1, hR.out.2.then hf1⟩
        have hkn := HB.out.1
        clear hf1
        go_wp2
        go_roundw
        case rel => exact ⟨k + 1, by omega, by go_num, hM⟩
        case measure => simp [RowKit.intOf]; omega
      · rw [decide_eq_false hin] at HS
        have HN := Lib.hid hin
        clear hin
        go_wp2_with fail
        refine HS.out.mono ?_
        rintro e w1 ⟨⟨z, rfl⟩, hf1⟩
        have HF := Lib.hid hf1
        have hap := app_oneH w1 w.heap.size u9 _ ⟨x, t, a⟩ TLH (hR.out.1.non hf1) (by have := HB.out.2.2; omega) (hR.out.2.then hf1).size
        rw [show (⟨x, t, a⟩ : Hl).d = x from rfl] at hap
        unfold strV at hap
        have HA := Lib.hid hap
        clear hap hf1
        go_wp2_with (at_builtin; go_must (refine wpList_app rfl _ _ _ _ rfl _ _ rfl rfl _ HA.out ?_))
        intro v' w' hA
        have hM : Hid (OwH w.heap.size w' v' (newH l t a (ds.take (k + 1))) ∧ Fp Non w w') := ⟨by rw [HB.out.2.1, if_pos HN.out]; exact hA.own, (hR.out.2.then HF.out).trans hA.fp (fun j hj => .inr (HLB.out j hj))⟩
        have hkn := HB.out.1
        clear hA HA
        go_wp2
        go_roundw
        case rel => exact ⟨k + 1, by omega, by go_num, hM⟩
        case measure => simp [RowKit.intOf]; omega
    · have hke : k = m := by omega
      subst hke
      have q3 : ((k : Int) < (k : Int)) = False := eq_false (by omega)
      have hO := hR.out
      rw [HX.out.2.1, List.take_length] at hO
      have hso := sort_own hO.1 (by have := newH_len l t a ds; have := HX.out.1; have := HX.out.2.1; omega)
      have hlb := hO.1.low
      have HS := Lib.hid (And.intro hso (And.intro hlb hO.2))
      clear hlt hk hO hso hlb hR
      go_wp2_with fail
      refine HS.out.1.mono ?_
      rintro e w1 ⟨rfl, l', h1, h2, h3, h4⟩
      have e9 := newH_puts HX.out.2.2.2.1 HX.out.2.2.2.2.1 HX.out.2.2.2.2.2.1 h2 h3
      subst e9
      have HR : Hid (HlR w (putsH l t a ds) u9 w1) := ⟨h1, HS.out.2.2.trans h4 (fun j hj => .inr (HS.out.2.1 j hj))⟩
      clear h1 h2 h3 h4
      go_wp2
      go_ret
      exact ⟨_, rfl, HR.out⟩
end Go.Proofs.YtenaggleepoclaaGreat
