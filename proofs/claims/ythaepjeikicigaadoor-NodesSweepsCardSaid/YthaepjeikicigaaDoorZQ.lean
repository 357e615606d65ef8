/- Texts of this proof, merged. -/
import Derived.Test.YthaepjeikicigaaDoorZF
import Derived.ProofKit
import Derived.OpenShut
import Derived.Deep.Strs
import Derived.Deep.Grids
import Derived.ChangeSlices
/- The document's Find; Great. -/
namespace Go.Proofs.YthaepjeikicigaaDoor
set_option maxRecDepth 20000
set_option linter.unusedVariables false
set_option linter.unusedSimpArgs false
open Go.RowKit Pm

set_option maxHeartbeats 1000000 in
theorem GreatOp_c (o : Opn) (w : World) :
    Calls Tryd.prog 12 #[opV o] w fun e w' => ∃ c, e = .returned (.bool c) ∧ (c = false → o.path.length ≤ 3000 ∧ o.data.length ≤ 3000) ∧ Fp Non w w' := by
  obtain ⟨kk, p, d, v, ow, t⟩ := o
  unfold opV strV
  have lenB : ∀ l : Bs, (B l).data.size = l.length := fun l => by unfold B; simp
  by_cases h1 : 3000 < p.length
  · have q1 : (3000 < p.length) = True := eq_true h1
    have q2 : ((3000 : Int) < (p.length : Int)) = True := eq_true (by omega)
    clear h1
    go_enter Tryd.func12, Tryd.ntmps12
    go_wp2
    go_ret
    exact ⟨_, rfl, fun h => by simp at h, (Fp.refl Non w).alloc _⟩
  · have q1 : (3000 < p.length) = False := eq_false h1
    have q2 : ((3000 : Int) < (p.length : Int)) = False := eq_false (by omega)
    by_cases h2 : 3000 < d.length
    · have q3 : (3000 < d.length) = True := eq_true h2
      have q4 : ((3000 : Int) < (d.length : Int)) = True := eq_true (by omega)
      clear h1 h2
      go_enter Tryd.func12, Tryd.ntmps12
      go_wp2
      go_ret
      exact ⟨_, rfl, fun h => by simp at h, (Fp.refl Non w).alloc _⟩
    · have q3 : (3000 < d.length) = False := eq_false h2
      have q4 : ((3000 : Int) < (d.length : Int)) = False := eq_false (by omega)
      have HL := Lib.hid (show p.length ≤ 3000 ∧ d.length ≤ 3000 by omega)
      clear h1 h2
      go_enter Tryd.func12, Tryd.ntmps12
      go_wp2
      go_ret
      exact ⟨_, rfl, fun _ => HL.out, (Fp.refl Non w).alloc _⟩

theorem box5 {w : World} {b : Nat} {T : TypeId} {c0 c1 c2 c3 c4 : Value} (h : w.heap[b]? = some (.cells #[c0, c1, c2, c3, c4] T (0, 0))) :
    w.cell? ⟨b, 0, none⟩ = some c0 ∧ w.cell? ⟨b, 1, none⟩ = some c1 ∧ w.cell? ⟨b, 2, none⟩ = some c2 ∧ w.cell? ⟨b, 3, none⟩ = some c3 ∧ w.cell? ⟨b, 4, none⟩ = some c4 :=
  ⟨by rw [cell_of_row _ _ _ _ _ _ h]; rfl, by rw [cell_of_row _ _ _ _ _ _ h]; rfl, by rw [cell_of_row _ _ _ _ _ _ h]; rfl, by rw [cell_of_row _ _ _ _ _ _ h]; rfl, by rw [cell_of_row _ _ _ _ _ _ h]; rfl⟩
/-- Ahead of round k of the document's Find. -/
structure RfM (l : List Nd) (p : Bs) (w : World) (k : Nat) (wr : World) : Prop where
  row : wr.heap[w.heap.size]? = some (.cells #[.string ⟨#[]⟩, .string ⟨#[]⟩, .int .i64 0, .int .i64 0, .int .i64 0] TN (0, 0))
  fp : Fp Non w wr
  no : ∀ j (hj : j < l.length), j < k → l[j].path ≠ p
theorem RfM.next {l : List Nd} {p : Bs} {w wr : World} {k : Nat} (h : RfM l p w k wr) (hk : k < l.length) (hp : l[k].path ≠ p) : RfM l p w (k + 1) wr :=
  ⟨h.row, h.fp, fun j hj hjk => by
    rcases Nat.lt_or_eq_of_le (show j ≤ k by omega) with e | e
    · exact h.no j hj e
    · subst e; exact hp⟩
theorem RfM.found {l : List Nd} {p : Bs} {w wr : World} {k : Nat} (h : RfM l p w k wr) (hk : k < l.length) (hp : l[k].path = p) : find l p = some l[k] := by
  unfold find
  rw [List.find?_eq_some_iff_getElem]
  refine ⟨by simp [hp], k, hk, rfl, fun j hji => ?_⟩
  have := h.no j (by omega) hji
  simp [this]
theorem RfM.none {l : List Nd} {p : Bs} {w wr : World} {k : Nat} (h : RfM l p w k wr) (hk : k = l.length) : find l p = none := by
  rw [find_none]
  intro x hx
  obtain ⟨j, hj, rfl⟩ := List.getElem_of_mem hx
  exact h.no j hj (by omega)

set_option maxHeartbeats 2000000 in
theorem rFind_c (v : Value) (l : List Nd) (p : Bs) (w : World) (hv : Ns w v l) (hn : l.length ≤ 1000000) :
    Calls Tryd.prog 18 #[v, .string (B p)] w fun e w' => e = .returned (.tuple #[ndV ((find l p).getD zeroNd), .bool (find l p).isSome]) ∧ Fp Non w w' := by
  obtain ⟨ao, cap, rfl⟩ := hv.shape
  obtain ⟨n, hnn⟩ : ∃ n, n = l.length := ⟨_, rfl⟩
  have HX := Lib.hid (And.intro hnn hv)
  rw [← hnn]
  have hnb : n ≤ 1000000 := by omega
  have H0 : Hid (RfM l p w 0 (w.alloc (.cells #[.string ⟨#[]⟩, .string ⟨#[]⟩, .int .i64 0, .int .i64 0, .int .i64 0] TN))) := ⟨heap_alloc_new w _, (Fp.refl Non w).alloc _, fun j _ h => absurd h (Nat.not_lt_zero j)⟩
  clear hv hn hnn
  go_enter Tryd.func18, Tryd.ntmps18
  go_wp2_with fail
  go_loopw [6] (fun i wr => ∃ k : Nat, k ≤ n ∧ i = .int .i64 k ∧ Hid (RfM l p w k wr)) (fun i _ => n - (RowKit.intOf i).toNat)
  case atStart => exact ⟨0, Nat.zero_le _, rfl, H0⟩
  case round =>
    clear H0
    obtain ⟨k, hk, rfl, hR⟩ := hrel
    rename_i wr _
    have HB := Lib.hid hR.out.row
    have HF := Lib.hid hR.out.fp
    obtain ⟨r0, r1, r2, r3, r4⟩ := box5 hR.out.row
    have fz : ∀ j, wr.frozen? ⟨w.heap.size, j, none⟩ = false := fun j => by simp [World.frozen?, HB.out]
    have f0 := fz 0; have f1 := fz 1; have f2 := fz 2; have f3 := fz 3; have f4 := fz 4
    clear fz
    by_cases hlt : k < n
    · have hkl : k < l.length := by rw [← HX.out.1]; exact hlt
      obtain ⟨g, o, cap', e, _, _, _, hcell⟩ := HX.out.2.at (by omega)
      injection e with e1 e2 e3
      subst e1 e3
      have hnd := (hcell k hkl).keep hR.out.fp (fun h => h)
      have q3 : ((k : Int) < (n : Int)) = True := eq_true (by omega)
      have q4 : (k < n) = True := eq_true hlt
      have hnx := fun h => hR.out.next hkl h
      have hfd := fun h => hR.out.found hkl h
      have HNX := Lib.hid hnx
      have HFD := Lib.hid hfd
      have HL := Lib.hid hlt
      clear hcell hnx hfd hlt
      generalize l[k] = x at *
      clear hkl
      have c0 := hnd.c0; have c1 := hnd.c1; have c2 := hnd.c2; have c3 := hnd.c3; have c4 := hnd.c4
      unfold strV at c0 c1
      clear hnd
      by_cases hp : x.path = p
      · have HFN := Lib.hid (HFD.out hp)
        have q5 : (x.path == p) = true := beq_iff_eq.2 hp
        have q6 : (x.path = p) = True := eq_true hp
        clear hp
        go_wp2
        have hw9 := set5 HB.out (.string (B x.path)) (.string (B x.data)) (.int .i64 x.ver) (.int .i64 x.turn) (.int .i64 x.own)
        have hf9 := fp5 (S := Non) HF.out (b := w.heap.size) (.inr (Nat.le_refl _)) (.string (B x.path)) (.string (B x.data)) (.int .i64 x.ver) (.int .i64 x.turn) (.int .i64 x.own)
        generalize (((((World.setCell wr _ _).setCell _ _).setCell _ _).setCell _ _).setCell _ _) = w9 at *
        have s0 := cell_of_row _ w.heap.size 0 _ _ _ hw9
        have s1 := cell_of_row _ w.heap.size 1 _ _ _ hw9
        have s2 := cell_of_row _ w.heap.size 2 _ _ _ hw9
        have s3 := cell_of_row _ w.heap.size 3 _ _ _ hw9
        have s4 := cell_of_row _ w.heap.size 4 _ _ _ hw9
        simp only [List.getElem?_toArray, List.getElem?_cons_zero, List.getElem?_cons_succ] at s0 s1 s2 s3 s4
        exact bodyPost_ret (v := .tuple #[.agg #[.string (B x.path), .string (B x.data), .int .i64 x.ver, .int .i64 x.turn, .int .i64 x.own], .bool true]) (by simp [results, Tryd.results18, go_sem, s0, s1, s2, s3, s4]) rfl ⟨by rw [HFN.out]; rfl, hf9⟩
      · have hM := Lib.hid (HNX.out hp)
        have q5 : (x.path == p) = false := beq_eq_false_iff_ne.2 hp
        have q6 : (x.path = p) = False := eq_false hp
        have hj := HL.out
        clear hp r0 r1 r2 r3 r4 f0 f1 f2 f3 f4
        go_wp2
        go_roundw
        case rel => exact ⟨k + 1, by omega, by go_num, hM⟩
        case measure => simp [RowKit.intOf]; omega
    · have hke : k = n := by omega
      subst hke
      have q3 : ((k : Int) < (k : Int)) = False := eq_false (by omega)
      have hfin := hR.out.none HX.out.1
      have HFN := Lib.hid hfin
      clear hlt hk hfin
      go_wp2
      have hw9 := set5 HB.out (.string ⟨#[]⟩) (.string ⟨#[]⟩) (.int .i64 0) (.int .i64 0) (.int .i64 0)
      have hf9 := fp5 (S := Non) HF.out (b := w.heap.size) (.inr (Nat.le_refl _)) (.string ⟨#[]⟩) (.string ⟨#[]⟩) (.int .i64 0) (.int .i64 0) (.int .i64 0)
      generalize (((((World.setCell wr _ _).setCell _ _).setCell _ _).setCell _ _).setCell _ _) = w9 at *
      have s0 := cell_of_row _ w.heap.size 0 _ _ _ hw9
      have s1 := cell_of_row _ w.heap.size 1 _ _ _ hw9
      have s2 := cell_of_row _ w.heap.size 2 _ _ _ hw9
      have s3 := cell_of_row _ w.heap.size 3 _ _ _ hw9
      have s4 := cell_of_row _ w.heap.size 4 _ _ _ hw9
      simp only [List.getElem?_toArray, List.getElem?_cons_zero, List.getElem?_cons_succ] at s0 s1 s2 s3 s4
      exact bodyPost_ret (v := .tuple #[.agg #[.string ⟨#[]⟩, .string ⟨#[]⟩, .int .i64 0, .int .i64 0, .int .i64 0], .bool false]) (by simp [results, Tryd.results18, go_sem, s0, s1, s2, s3, s4]) rfl ⟨by rw [HFN.out]; rfl, hf9⟩
end Go.Proofs.YthaepjeikicigaaDoor

/- The document's Same. -/
namespace Go.Proofs.YthaepjeikicigaaDoor
set_option maxRecDepth 20000
set_option linter.unusedVariables false
set_option linter.unusedSimpArgs false
open Go.RowKit Pm

theorem fN : (Tryd.prog.fieldsOf TN).toList = [⟨ "Path", 9, 0, false, "", "", 0⟩, ⟨ "Data", 9, 1, false, "", "", 16⟩, ⟨ "Version", 2, 2, false, "", "", 32⟩, ⟨ "Turn", 2, 3, false, "", "", 40⟩, ⟨ "Owner", 2, 4, false, "", "", 48⟩] := by kernel_rfl
theorem eq_nd (w : World) (p p' d d' : ByteArray) (v v' t t' o o' : Int) : (Op.equalIn 10000 TN (.agg #[.string p, .string d, .int .i64 v, .int .i64 t, .int .i64 o]) (.agg #[.string p', .string d', .int .i64 v', .int .i64 t', .int .i64 o'])).run Tryd.prog w =
    .ok (decide (p.toList = p'.toList ∧ d.toList = d'.toList ∧ v = v' ∧ t = t' ∧ o = o')) w := by
  rw [run_equalIn_agg w 9999 TN _ _ (by kernel_rfl) (by kernel_rfl), fN]
  have e2 := fun w a b => run_equalIn_int (P := Tryd.prog) w 9998 2 .i64 .i64 a b Tryd.underlying2
  have e3 := fun w a b => run_equalIn_string (P := Tryd.prog) w 9998 9 a b Tryd.underlying9
  simp only [Op.eqFields]
  simp [e2, e3, go_sem]
  by_cases h2 : p.toList = p'.toList <;> by_cases h3 : d.toList = d'.toList <;> by_cases h4 : v = v' <;> by_cases h5 : t = t' <;> by_cases h6 : o = o' <;> simp [h2, h3, h4, h5, h6]
theorem B_list (l : Bs) : (B l).toList = l := by
  unfold B; simp [ByteArray.toList_eq]
theorem eq_nds (w : World) (x y : Nd) : (Op.equalIn 10000 TN (.agg #[.string (B x.path), .string (B x.data), .int .i64 x.ver, .int .i64 x.turn, .int .i64 x.own]) (.agg #[.string (B y.path), .string (B y.data), .int .i64 y.ver, .int .i64 y.turn, .int .i64 y.own])).run Tryd.prog w = .ok (decide (x = y)) w := by
  rw [eq_nd]
  congr 1
  simp only [B_list]
  obtain ⟨_, _, _, _, _⟩ := x
  obtain ⟨_, _, _, _, _⟩ := y
  simp

/-- Ahead of round k of Same. -/
structure SaM (a b : List Nd) (w : World) (k : Nat) (wr : World) : Prop where
  fp : Fp Non w wr
  eq : a.take k = b.take k
theorem take_succ_eq {a b : List Nd} {k : Nat} (ha : k < a.length) (hb : k < b.length) (h : a.take k = b.take k) (e : a[k] = b[k]) : a.take (k + 1) = b.take (k + 1) := by
  rw [List.take_succ_eq_append_getElem ha, List.take_succ_eq_append_getElem hb, h, e]

set_option maxHeartbeats 2000000 in
theorem rSameN_c (va vb : Value) (a b : List Nd) (w : World) (hva : Ns w va a) (hvb : Ns w vb b) (hn : a.length ≤ 1000000) (hm : b.length ≤ 1000000) :
    Calls Tryd.prog 15 #[va, vb] w fun e w' => e = .returned (.bool (decide (a = b))) ∧ Fp Non w w' := by
  obtain ⟨ao, ca, rfl⟩ := hva.shape
  obtain ⟨bo, cb, rfl⟩ := hvb.shape
  by_cases hl : a.length = b.length
  · obtain ⟨n, hnn⟩ : ∃ n, n = a.length := ⟨_, rfl⟩
    have hnb : n ≤ 1000000 := by omega
    have HX := Lib.hid (And.intro hnn (And.intro (show n = b.length by omega) (And.intro hva hvb)))
    rw [← hl, ← hnn]
    have H0 : Hid (SaM a b w 0 w) := ⟨Fp.refl _ _, by simp⟩
    have heq := eq_nds
    clear hva hvb hl hn hm hnn
    go_enter Tryd.func15, Tryd.ntmps15
    go_wp2_with fail
    go_loopw [5] (fun i wr => ∃ k : Nat, k ≤ n ∧ i = .int .i64 k ∧ Hid (SaM a b w k wr)) (fun i _ => n - (RowKit.intOf i).toNat)
    case atStart => exact ⟨0, Nat.zero_le _, rfl, H0⟩
    case round =>
      clear H0
      obtain ⟨k, hk, rfl, hR⟩ := hrel
      rename_i wr _
      by_cases hlt : k < n
      · have hka : k < a.length := by rw [← HX.out.1]; exact hlt
        have hkb : k < b.length := by rw [← HX.out.2.1]; exact hlt
        obtain ⟨g, o, cap', e, _, _, _, hcell⟩ := HX.out.2.2.1.at (by omega)
        injection e with e1 e2 e3
        subst e1 e3
        obtain ⟨g', o', cap', e, _, _, _, hcell'⟩ := HX.out.2.2.2.at (by omega)
        injection e with e1 e2 e3
        subst e1 e3
        have hnd := (hcell k hka).keep hR.out.fp (fun h => h)
        have hnd' := (hcell' k hkb).keep hR.out.fp (fun h => h)
        have q3 : ((k : Int) < (n : Int)) = True := eq_true (by omega)
        have q4 : (k < n) = True := eq_true hlt
        have hnx := fun e wr' (f : Fp Non wr wr') => (show SaM a b w (k + 1) wr' from ⟨hR.out.fp.then f, take_succ_eq hka hkb hR.out.eq e⟩)
        have hno := fun (e : a[k] ≠ b[k]) => (show a ≠ b from fun h => e (by subst h; rfl))
        have HNX := Lib.hid hnx
        have HNO := Lib.hid hno
        have HL := Lib.hid hlt
        clear hcell hcell' hnx hno hlt
        generalize a[k] = x at *
        generalize b[k] = y at *
        have c0 := hnd.c0; have c1 := hnd.c1; have c2 := hnd.c2; have c3 := hnd.c3; have c4 := hnd.c4
        have d0 := hnd'.c0; have d1 := hnd'.c1; have d2 := hnd'.c2; have d3 := hnd'.c3; have d4 := hnd'.c4
        unfold strV at c0 c1 d0 d1
        clear hnd hnd' hka hkb
        by_cases hxy : x = y
        · have q5 : decide (x = y) = true := decide_eq_true hxy
          have q6 : (x = y) = True := eq_true hxy
          have hM := Lib.hid (HNX.out hxy)
          have hj := HL.out
          clear hxy
          go_wp2_with fail
          go_quiet (fail)
          go_wp2
          go_roundw
          case rel => exact ⟨k + 1, by omega, by go_num, hM.out _ ((Fp.refl _ _).drewN _)⟩
          case measure => simp [RowKit.intOf]; omega
        · have q5 : decide (x = y) = false := decide_eq_false hxy
          have q6 : (x = y) = False := eq_false hxy
          have HN := Lib.hid (HNO.out hxy)
          clear hxy
          go_wp2_with fail
          go_quiet (fail)
          go_wp2
          go_ret
          exact ⟨by rw [decide_eq_false HN.out]; rfl, hR.out.fp.drewN _⟩
      · have hke : k = n := by omega
        subst hke
        have q3 : ((k : Int) < (k : Int)) = False := eq_false (by omega)
        have hfin : a = b := by
          have := hR.out.eq
          rw [HX.out.1, List.take_length, ← HX.out.1, HX.out.2.1, List.take_length] at this; exact this
        have HFN := Lib.hid hfin
        clear hlt hk hfin
        go_wp2
        go_ret
        exact ⟨by rw [decide_eq_true HFN.out]; rfl, hR.out.fp⟩
  · have HN := Lib.hid (show a ≠ b from fun h => hl (by rw [h]))
    have q1 : ((a.length : Int) == (b.length : Int)) = false := beq_eq_false_iff_ne.2 (by omega)
    have q2 : ((a.length : Int) = (b.length : Int)) = False := eq_false (by omega)
    have q3 : (a.length == b.length) = false := beq_eq_false_iff_ne.2 hl
    have q4 : (a.length = b.length) = False := eq_false hl
    clear hl hva hvb hn hm
    go_enter Tryd.func15, Tryd.ntmps15
    go_wp2
    go_ret
    exact ⟨by rw [decide_eq_false HN.out]; rfl, Fp.refl _ _⟩
end Go.Proofs.YthaepjeikicigaaDoor

/- Is it too much? -/
namespace Go.Proofs.YthaepjeikicigaaDoor
set_option maxRecDepth 20000
set_option linter.unusedVariables false
set_option linter.unusedSimpArgs false
open Go.RowKit Pm

/-- Ahead of round k of Great. -/
structure GrM (l : List Nd) (w : World) (k : Nat) (N : Int) (wr : World) : Prop where
  fp : Fp Non w wr
  lo : 3 * (l.length : Int) ≤ N
  eq : ∀ j (h : j < l.length), j < k → (min (l[j].path.length : Int) 5000 ≤ N ∧ min (l[j].data.length : Int) 5000 ≤ N)

theorem min5 (a : Nat) : (0 : Int) ≤ min (a : Int) 5000 ∧ min (a : Int) 5000 ≤ 5000 := by omega
theorem GrM.next {l : List Nd} {w wr wr' : World} {k : Nat} {N : Int} (h : GrM l w k N wr) (f : Fp Non wr wr') (hk : k < l.length) :
    GrM l w (k + 1) (N + min (l[k].path.length : Int) 5000 + min (l[k].data.length : Int) 5000) wr' := by
  have hN : 0 ≤ N := by have := h.lo; omega
  have m1 := min5 l[k].path.length
  have m2 := min5 l[k].data.length
  refine ⟨h.fp.then f, by have := h.lo; omega, fun j hj hjk => ?_⟩
  rcases Nat.lt_or_eq_of_le (show j ≤ k by omega) with e | e
  · have := h.eq j hj e
    omega
  · subst e
    omega
theorem GrM.few {l : List Nd} {w wr : World} {k : Nat} {N : Int} (h : GrM l w k N wr) (hk : k = l.length) (hN : N < 5000) : l.length ≤ 1667 ∧ ∀ x ∈ l, x.path.length ≤ 5000 ∧ x.data.length ≤ 5000 := by
  refine ⟨by have := h.lo; omega, fun x hx => ?_⟩
  obtain ⟨j, hj, rfl⟩ := List.getElem_of_mem hx
  have := h.eq j hj (by omega)
  omega

set_option maxHeartbeats 6000000 in
theorem Great_c (v : Value) (l : List Nd) (w : World) (hv : Ns w v l) (hn : l.length ≤ 140737488355328) :
    Calls Tryd.prog 11 #[v] w fun e w' => ∃ g : Bool, e = .returned (.bool g) ∧ (g = false → l.length ≤ 1667 ∧ ∀ x ∈ l, x.path.length ≤ 5000 ∧ x.data.length ≤ 5000) ∧ Fp Non w w' := by
  obtain ⟨ao, cap, rfl⟩ := hv.shape
  obtain ⟨n, hnn⟩ : ∃ n, n = l.length := ⟨_, rfl⟩
  have HX := Lib.hid (And.intro hnn hv)
  rw [← hnn]
  have hnb : n ≤ 140737488355328 := by omega
  clear hv hn hnn
  go_enter Tryd.func11, Tryd.ntmps11
  go_wp2_with fail
  go_loopw [3, 4] (fun m i wr => ∃ k : Nat, k ≤ n ∧ i = .int .i64 k ∧ ∃ N : Int, m = .int .i64 N ∧ (0 ≤ N ∧ N ≤ 422212465095680) ∧ Hid (GrM l w k N wr)) (fun _ i _ => n - (RowKit.intOf i).toNat)
  case atStart => exact ⟨0, Nat.zero_le _, rfl, 3 * (n : Int), by go_num, by omega, ⟨Fp.refl _ _, by rw [HX.out.1]; exact Int.le_refl _, fun j _ h => absurd h (Nat.not_lt_zero j)⟩⟩
  case round =>
    obtain ⟨k, hk, rfl, N, rfl, hN, hR⟩ := hrel
    rename_i wr _
    by_cases hlt : k < n
    · have hkl : k < l.length := by rw [← HX.out.1]; exact hlt
      have q3 : ((k : Int) < (n : Int)) = True := eq_true (by omega)
      have q4 : (k < n) = True := eq_true hlt
      by_cases hN5 : N < 5000
      · have q5 : (N < 5000) = True := eq_true hN5
        obtain ⟨g, o, cap', e, _, _, _, hcell⟩ := HX.out.2.at (by omega)
        injection e with e1 e2 e3
        subst e1 e3
        have hnd := (hcell k hkl).keep hR.out.fp (fun h => h)
        clear hcell
        have hnx := fun wr' f => hR.out.next (wr' := wr') f hkl
        have HNX := Lib.hid hnx
        have HL := Lib.hid (And.intro hlt hN5)
        clear hnx hlt hN5
        generalize l[k] = x at *
        clear hkl
        have c0 := hnd.c0; have c1 := hnd.c1
        unfold strV at c0 c1
        have HB := Lib.hid (And.intro (min5 x.path.length) (min5 x.data.length))
        clear hnd
        go_wp2_with fail
        go_quiet (fail)
        go_wp2_with fail
        have hb := HB.out
        have hj := HL.out
        refine ⟨⟨k + 1, by omega, by go_num, _, rfl, ⟨by omega, by omega⟩, HNX.out _ ((Fp.refl _ _).drewN _)⟩, ?_⟩
        simp [RowKit.intOf]; omega
      · have q5 : (N < 5000) = False := eq_false hN5
        have q6 : ((5000 : Int) ≤ N) = True := eq_true (by omega)
        clear hN5 hkl hlt
        go_wp2
        go_ret
        exact ⟨true, rfl, fun h => by simp at h, hR.out.fp⟩
    · have hke : k = n := by omega
      subst hke
      have q3 : ((k : Int) < (k : Int)) = False := eq_false (by omega)
      by_cases hN5 : N < 5000
      · have q6 : ((5000 : Int) ≤ N) = False := eq_false (by omega)
        have hfw := hR.out.few HX.out.1 hN5
        rw [← HX.out.1] at hfw
        have HFW := Lib.hid hfw
        clear hfw hN5 hlt hk
        go_wp2
        go_ret
        exact ⟨false, rfl, fun _ => HFW.out, hR.out.fp⟩
      · have q6 : ((5000 : Int) ≤ N) = True := eq_true (by omega)
        clear hN5 hlt hk
        go_wp2
        go_ret
        exact ⟨true, rfl, fun h => by simp at h, hR.out.fp⟩
end Go.Proofs.YthaepjeikicigaaDoor

/- The arguments of the laws: nodes. -/
namespace Go.Proofs.YthaepjeikicigaaDoor
set_option maxRecDepth 20000
open Go.ChangeShapes Go.WideShapes Go.ChangeAt Go.RowKit Pm Go.Deep
open Go.WideMaps Go.WideElems
open Go.ChangeMaps (setBlock shut_map_nil open_string shut_string)

theorem spot_none {w : World} {a : Addr} {v : Value} (h : w.cell? a = some v) : ∃ g o, a = ⟨g, o, none⟩ := by
  obtain ⟨g, o, spot⟩ := a
  have hs : spot = none := World.cell?_spot h
  exact ⟨g, o, by rw [hs]⟩
theorem Tryd.cellsNd : Tryd.prog.cellsOf 39 = 5 := by kernel_rfl
theorem Tryd.bytesNd : Tryd.prog.bytesOf 39 = 56 := by kernel_rfl
theorem Tryd.cellsStr' : Tryd.prog.cellsOf 9 = 1 := by kernel_rfl
theorem Tryd.cellsOp : Tryd.prog.cellsOf 24 = 6 := by kernel_rfl
theorem Tryd.cellsInt : Tryd.prog.cellsOf 3 = 1 := by kernel_rfl
theorem Tryd.cellsBoo : Tryd.prog.cellsOf 4 = 1 := by kernel_rfl
theorem Tryd.cellsI64 : Tryd.prog.cellsOf 2 = 1 := by kernel_rfl

section
variable {H : Type} {enc : TypeId × Value → H} {W : World}

theorem nd_of {n : Nat} {cs : List Value} {y : DataW H × List MemPlace} (hlen : cs.length = 5) (h : DataW.trod enc Tryd.prog W 0 (fun _ => true) true n 39 cs = some y) :
    ∃ x : Nd, cs = ndC x ∧ x.path.length ≤ maxLen ∧ x.data.length ≤ maxLen := by
  obtain ⟨xs, k, hk, hxy, _, hxl, hf⟩ := DataW.trod_struct Tryd.underlying39 h
  match xs, hxl, cs, hlen with
  | [y0, y1, y2, y3, y4], _, [v0, v1, v2, v3, v4], _ =>
    have g0 := hf 0 _ rfl
    have g1 := hf 1 _ rfl
    have g2 := hf 2 _ rfl
    have g3 := hf 3 _ rfl
    have g4 := hf 4 _ rfl
    simp [Tryd.cellsStr'] at g0
    simp [Tryd.cellsStr'] at g1
    simp [Tryd.cellsI64] at g2
    simp [Tryd.cellsI64] at g3
    simp [Tryd.cellsI64] at g4
    obtain ⟨z0, e0, _, h0⟩ := DataW.trod_string Tryd.underlying9 g0
    obtain ⟨z1, e1, _, h1⟩ := DataW.trod_string Tryd.underlying9 g1
    obtain ⟨z2, e2, _, _⟩ := DataW.trod_int Tryd.underlying2 g2
    obtain ⟨z3, e3, _, _⟩ := DataW.trod_int Tryd.underlying2 g3
    obtain ⟨z4, e4, _, _⟩ := DataW.trod_int Tryd.underlying2 g4
    simp only [List.cons.injEq, and_true] at e0 e1 e2 e3 e4
    subst e0 e1 e2 e3 e4
    refine ⟨⟨z0.data.toList, z1.data.toList, z2, z3, z4⟩, ?_, ?_, ?_⟩
    · unfold ndC strV; rw [← B_of, ← B_of]
    · simpa using h0
    · simpa using h1

/-- []Node, opened. -/
theorem open_nodes {v : Value} {d : DataW H} {p : List MemPlace} {base : Nat} (hv : Value.okWide Tryd.prog W .any base 22 v) (h : DataW.Trod enc Tryd.prog W 0 (fun _ => true) true 22 v d p) (hsz : ∀ n ∈ d.weights Tryd.prog 22, n ≤ reachBytes) :
    ∃ l, Ns W v l ∧ l.length ≤ 140737488355328 ∧ ∀ x ∈ l, x.path.length ≤ maxLen ∧ x.data.length ≤ maxLen := by
  obtain ⟨a0, len, cap, rfl⟩ := okWide_slice Tryd.underlying22 hv
  obtain ⟨fuel, hf⟩ := h
  have hf : DataW.trod enc Tryd.prog W 0 (fun _ => true) true fuel 22 [.slice a0 len cap] = some (d, p) := by simpa [Value.cells] using hf
  rcases open_slice Tryd.underlying22 hf with ⟨hcs, hx⟩ | ⟨a, len', cap', m, n, D, Pl, hcs, _, hl, hm, hmm, hx, hel⟩
  · simp only [List.cons.injEq, Value.slice.injEq, and_true] at hcs
    obtain ⟨rfl, rfl, rfl⟩ := hcs
    exact ⟨[], Ns.nil W, Nat.zero_le _, fun _ h => by cases h⟩
  · simp only [List.cons.injEq, Value.slice.injEq, and_true] at hcs
    obtain ⟨rfl, rfl, rfl⟩ := hcs
    simp only [if_true] at hmm
    subst hmm
    have hlb : len ≤ 140737488355328 := by
      simp only [Prod.mk.injEq] at hx
      rw [hx.1] at hsz
      simp only [DataW.weights, Tryd.underlying22] at hsz
      have := hsz _ (List.mem_cons_self ..)
      rw [Tryd.bytesNd] at this
      simp only [List.length_map, List.length_range, reachBytes] at this
      omega
    have each : ∀ i, i < len → ∃ x : Nd, (∀ j (hj : j < 5), W.cell? (a.add (i * 5 + j)) = (ndC x)[j]?) ∧ x.path.length ≤ maxLen ∧ x.data.length ≤ maxLen := by
      intro i hi
      obtain ⟨cs', h1, h2⟩ := hel i (by omega)
      rw [Tryd.cellsNd] at h1
      obtain ⟨_, hlen, hcell⟩ := World.cells?_some h1
      obtain ⟨x, rfl, h3, h4⟩ := nd_of hlen h2
      refine ⟨x, fun j hj => ?_, h3, h4⟩
      have := hcell j (by omega)
      rw [add_add] at this
      exact this
    obtain ⟨f, hfi⟩ : ∃ f : Nat → Nd, ∀ i, i < len → (∀ j (hj : j < 5), W.cell? (a.add (i * 5 + j)) = (ndC (f i))[j]?) ∧ (f i).path.length ≤ maxLen ∧ (f i).data.length ≤ maxLen := by
      haveI : Inhabited Nd := ⟨zeroNd⟩
      exact choose_lt each
    have hlen : ((List.range len).map f).length = len := by simp
    by_cases h0 : len = 0
    · subst h0
      exact ⟨[], ⟨some a, m, rfl, by simp, hm, .inl rfl⟩, Nat.zero_le _, fun _ h => by cases h⟩
    · have hc0 := (hfi 0 (by omega)).1 0 (by omega)
      have hc0 : W.cell? a = some (.string (B (f 0).path)) := by simpa [Addr.add, ndC, strV] using hc0
      have hlt := World.block_lt_of_cell? W a hc0
      obtain ⟨g, o, rfl⟩ := spot_none hc0
      refine ⟨(List.range len).map f, ⟨some ⟨g, o, none⟩, m, by rw [hlen], by rw [hlen]; exact hl, hm, .inr ⟨g, o, rfl, hlt, fun i hi => ?_⟩⟩, by rw [hlen]; exact hlb, fun x hx => ?_⟩
      · rw [hlen] at hi
        obtain ⟨k1, _, _⟩ := hfi i (by omega)
        simp only [List.getElem_map, List.getElem_range]
        have q0 := k1 0 (by omega)
        have q1 := k1 1 (by omega)
        have q2 := k1 2 (by omega)
        have q3 := k1 3 (by omega)
        have q4 := k1 4 (by omega)
        rw [Addr.add_lit] at q0 q1 q2 q3 q4
        exact ⟨by simpa [ndC] using q0, by simpa [Nat.add_assoc, ndC] using q1, by simpa [Nat.add_assoc, ndC] using q2, by simpa [Nat.add_assoc, ndC] using q3, by simpa [Nat.add_assoc, ndC] using q4⟩
      · obtain ⟨i, hi, rfl⟩ := List.mem_map.1 hx
        exact (hfi i (List.mem_range.1 hi)).2

/-- An operation, opened. -/
theorem open_op {v : Value} {d : DataW H} {p : List MemPlace} {base : Nat} (hv : Value.okWide Tryd.prog W .any base 24 v) (h : DataW.Trod enc Tryd.prog W 0 (fun _ => true) true 24 v d p) :
    ∃ o : Opn, v = opV o ∧ o.path.length ≤ maxLen ∧ o.data.length ≤ maxLen := by
  obtain ⟨cs, rfl, hcs⟩ := okWide_struct Tryd.underlying24 hv
  rw [Tryd.cellsOp] at hcs
  obtain ⟨fuel, hf⟩ := h
  have hf : DataW.trod enc Tryd.prog W 0 (fun _ => true) true fuel 24 cs.toList = some (d, p) := by simpa [Value.cells] using hf
  obtain ⟨cs⟩ := cs
  simp only at hf
  have hlen : cs.length = 6 := by simpa using hcs
  obtain ⟨xs, k, hk, hxy, _, hxl, hf⟩ := DataW.trod_struct Tryd.underlying24 hf
  match xs, hxl, cs, hlen with
  | [y0, y1, y2, y3, y4, y5], _, [v0, v1, v2, v3, v4, v5], _ =>
    have g0 := hf 0 _ rfl
    have g1 := hf 1 _ rfl
    have g2 := hf 2 _ rfl
    have g3 := hf 3 _ rfl
    have g4 := hf 4 _ rfl
    have g5 := hf 5 _ rfl
    simp [Tryd.cellsInt] at g0
    simp [Tryd.cellsStr'] at g1
    simp [Tryd.cellsStr'] at g2
    simp [Tryd.cellsI64] at g3
    simp [Tryd.cellsI64] at g4
    simp [Tryd.cellsBoo] at g5
    obtain ⟨z0, e0, _, _⟩ := DataW.trod_int Tryd.underlying3 g0
    obtain ⟨z1, e1, _, h1⟩ := DataW.trod_string Tryd.underlying9 g1
    obtain ⟨z2, e2, _, h2⟩ := DataW.trod_string Tryd.underlying9 g2
    obtain ⟨z3, e3, _, _⟩ := DataW.trod_int Tryd.underlying2 g3
    obtain ⟨z4, e4, _, _⟩ := DataW.trod_int Tryd.underlying2 g4
    obtain ⟨z5, e5, _⟩ := DataW.trod_bool Tryd.underlying4 g5
    simp only [List.cons.injEq, and_true] at e0 e1 e2 e3 e4 e5
    subst e0 e1 e2 e3 e4 e5
    refine ⟨⟨z0, z1.data.toList, z2.data.toList, z3, z4, z5⟩, ?_, ?_, ?_⟩
    · unfold opV strV; rw [← B_of, ← B_of]
    · simpa using h1
    · simpa using h2
end
end Go.Proofs.YthaepjeikicigaaDoor

/- The document's SameOne, where both are one. -/
namespace Go.Proofs.YthaepjeikicigaaDoor
set_option maxRecDepth 20000
set_option linter.unusedVariables false
set_option linter.unusedSimpArgs false
open Go.RowKit Pm

set_option maxHeartbeats 1000000 in
theorem rSame0_c (a b : Option Addr) (c c' : Nat) (w : World) :
    Calls Tryd.prog 32 #[.slice a 0 c, .slice b 0 c'] w fun e w' => e = .returned (.bool true) ∧ Fp Non w w' := by
  go_enter Tryd.func32, Tryd.ntmps32
  go_wp2_with fail
  go_loopw [5] (fun i wr => i = .int .i64 0 ∧ wr = w) (fun _ _ => 0)
  case atStart => exact ⟨rfl, rfl⟩
  case round =>
    obtain ⟨rfl, rfl⟩ := hrel
    go_wp2
    go_ret
    exact ⟨rfl, Fp.refl _ _⟩

set_option maxHeartbeats 4000000 in
theorem rSameOne_c (re : Int) (rp rd : Bs) (rv : Int) (n1 n2 : Value) (w : World) (hsame : ∀ w1, Fp Non w w1 → Calls Tryd.prog 32 #[n1, n2] w1 fun e w' => e = .returned (.bool true) ∧ Fp Non w1 w') :
    Calls Tryd.prog 19 #[.agg #[.int .i64 re, .string (B rp), .string (B rd), .int .i64 rv, n1], .agg #[.int .i64 re, .string (B rp), .string (B rd), .int .i64 rv, n2]] w fun e w' => e = .returned (.bool true) ∧ Fp Non w w' := by
  have hf0 : ∀ o o', Fp Non w ((w.alloc o).alloc o') := fun o o' => ((Fp.refl Non w).alloc o).alloc o'
  have HF := Lib.hid hf0
  have HS := Lib.hid hsame
  clear hf0 hsame
  go_enter Tryd.func19, Tryd.ntmps19
  go_wp2_with fail
  refine (HS.out _ (HF.out _ _)).mono ?_
  rintro e w1 ⟨rfl, hf⟩
  have H1 := Lib.hid ((HF.out _ _).then hf)
  clear hf
  go_wp2
  go_ret
  exact ⟨rfl, H1.out⟩
end Go.Proofs.YthaepjeikicigaaDoor

