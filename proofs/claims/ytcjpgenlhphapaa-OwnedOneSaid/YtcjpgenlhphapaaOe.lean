/- Equality of ranges; slices.Index, Contains; the document's Same (gen_oe.py) -/
import Derived.Test.YtcjpgenlhphapaaOd
import Derived.Laws.StructEq
namespace Go.Proofs.Ytcjpgenlhphapaa
set_option maxRecDepth 20000
set_option linter.unusedVariables false
set_option linter.unusedSimpArgs false
open Go.RowKit Pm

theorem fH : (Try.prog.fieldsOf TH).toList = [⟨ "Prefix", 9, 0, false, "", "", 0⟩, ⟨ "Epoch", 2, 1, false, "", "", 16⟩, ⟨ "State", 3, 2, false, "", "", 24⟩] := by kernel_rfl
theorem eq_hl (w : World) (p p' : ByteArray) (v v' t t' : Int) : (Op.equalIn 10000 TH (.agg #[.string p, .int .i64 v, .int .i64 t]) (.agg #[.string p', .int .i64 v', .int .i64 t'])).run Try.prog w =
    .ok (decide (p.toList = p'.toList ∧ v = v' ∧ t = t')) w := by
  rw [run_equalIn_agg w 9999 TH _ _ (by kernel_rfl) (by kernel_rfl), fH]
  have e2 := fun w a b => run_equalIn_int (P := Try.prog) w 9998 2 .i64 .i64 a b Try.underlying2
  have e4 := fun w a b => run_equalIn_int (P := Try.prog) w 9998 3 .i64 .i64 a b Try.underlying3
  have e3 := fun w a b => run_equalIn_string (P := Try.prog) w 9998 9 a b Try.underlying9
  simp only [Op.eqFields]
  simp [e2, e3, e4, go_sem]
  by_cases h2 : p.toList = p'.toList <;> by_cases h4 : v = v' <;> by_cases h5 : t = t' <;> simp [h2, h4, h5]
theorem B_list (l : Bs) : (B l).toList = l := by
  unfold B; simp [ByteArray.toList_eq]
theorem eq_hls (w : World) (x y : Hl) : (Op.equalIn 10000 TH (.agg #[.string (B x.d), .int .i64 x.t, .int .i64 x.a]) (.agg #[.string (B y.d), .int .i64 y.t, .int .i64 y.a])).run Try.prog w = .ok (decide (x = y)) w := by
  rw [eq_hl]
  congr 1
  simp only [B_list]
  obtain ⟨_, _, _⟩ := x
  obtain ⟨_, _, _⟩ := y
  simp

/-- Ahead of round k of Same. -/
structure SaH (a b : List Hl) (w : World) (k : Nat) (wr : World) : Prop where
  fp : Fp Non w wr
  eq : a.take k = b.take k
theorem take_succ_eq {a b : List Hl} {k : Nat} (ha : k < a.length) (hb : k < b.length) (h : a.take k = b.take k) (e : a[k] = b[k]) : a.take (k + 1) = b.take (k + 1) := by
  rw [List.take_succ_eq_append_getElem ha, List.take_succ_eq_append_getElem hb, h, e]

set_option maxHeartbeats 2000000 in
theorem rSameH_c (va vb : Value) (a b : List Hl) (w : World) (hva : NsH w va a) (hvb : NsH w vb b) (hn : a.length ≤ 1000000) (hm : b.length ≤ 1000000) :
    Calls Try.prog 23 #[va, vb] w fun e w' => e = .returned (.bool (decide (a = b))) ∧ Fp Non w w' := by
  obtain ⟨ao, ca, rfl⟩ := hva.shape
  obtain ⟨bo, cb, rfl⟩ := hvb.shape
  by_cases hl : a.length = b.length
  · obtain ⟨n, hnn⟩ : ∃ n, n = a.length := ⟨_, rfl⟩
    have hnb : n ≤ 1000000 := by omega
    have HX := Lib.hid (And.intro hnn (And.intro (show n = b.length by omega) (And.intro hva hvb)))
    rw [← hl, ← hnn]
    have H0 : Hid (SaH a b w 0 w) := ⟨Fp.refl _ _, by simp⟩
    have heq := eq_hls
    clear hva hvb hl hn hm hnn
    go_enter Try.func23, Try.ntmps23
    go_wp2_with fail
    go_loopw [5] (fun i wr => ∃ k : Nat, k ≤ n ∧ i = .int .i64 k ∧ Hid (SaH a b w k wr)) (fun i _ => n - (RowKit.intOf i).toNat)
    case atStart => exact ⟨0, Nat.zero_le _, rfl, H0⟩
    case round =>
      clear H0
      obtain ⟨k, hk, rfl, hR⟩ := hrel
      rename_i wr _
      by_cases hlt : k < n
      · have hka : k < a.length := by rw [← HX.out.1]; exact hlt
        have hkb : k < b.length := by rw [← HX.out.2.1]; exact hlt
        obtain ⟨g, o, cap', e, _, _, _, hcell⟩ := HX.out.2.2.1.at (by omega)
        injection e with e1 e2 e3
        subst e1 e3
        obtain ⟨g', o', cap', e, _, _, _, hcell'⟩ := HX.out.2.2.2.at (by omega)
        injection e with e1 e2 e3
        subst e1 e3
        have hnd := (hcell k hka).keep hR.out.fp (fun h => h)
        have hnd' := (hcell' k hkb).keep hR.out.fp (fun h => h)
        have q3 : ((k : Int) < (n : Int)) = True := eq_true (by omega)
        have q4 : (k < n) = True := eq_true hlt
        have hnx := fun e wr' (f : Fp Non wr wr') => (show SaH a b w (k + 1) wr' from ⟨hR.out.fp.then f, take_succ_eq hka hkb hR.out.eq e⟩)
        have hno := fun (e : a[k] ≠ b[k]) => (show a ≠ b from fun h => e (by subst h; rfl))
        have HNX := Lib.hid hnx
        have HNO := Lib.hid hno
        have HL := Lib.hid hlt
        clear hcell hcell' hnx hno hlt
        generalize a[k] = x at *
        generalize b[k] = y at *
        have c0 := hnd.c0; have c1 := hnd.c1; have c2 := hnd.c2
        have d0 := hnd'.c0; have d1 := hnd'.c1; have d2 := hnd'.c2
        unfold strV at c0 d0
        clear hnd hnd' hka hkb
        by_cases hxy : x = y
        · have q5 : decide (x = y) = true := decide_eq_true hxy
          have q6 : (x = y) = True := eq_true hxy
          have hM := Lib.hid (HNX.out hxy)
          have hj := HL.out
          clear hxy
          go_wp2_with fail
          go_quiet (fail)
          go_wp2
          go_roundw
          case rel => exact ⟨k + 1, by omega, by go_num, hM.out _ ((Fp.refl _ _).drewN _)⟩
          case measure => simp [RowKit.intOf]; omega
        · have q5 : decide (x = y) = false := decide_eq_false hxy
          have q6 : (x = y) = False := eq_false hxy
          have HN := Lib.hid (HNO.out hxy)
          clear hxy
          go_wp2_with fail
          go_quiet (fail)
          go_wp2
          go_ret
          exact ⟨by rw [decide_eq_false HN.out]; rfl, hR.out.fp.drewN _⟩
      · have hke : k = n := by omega
        subst hke
        have q3 : ((k : Int) < (k : Int)) = False := eq_false (by omega)
        have hfin : a = b := by
          have := hR.out.eq
          rw [HX.out.1, List.take_length, ← HX.out.1, HX.out.2.1, List.take_length] at this; exact this
        have HFN := Lib.hid hfin
        clear hlt hk hfin
        go_wp2
        go_ret
        exact ⟨by rw [decide_eq_true HFN.out]; rfl, hR.out.fp⟩
  · have HN := Lib.hid (show a ≠ b from fun h => hl (by rw [h]))
    have q1 : ((a.length : Int) == (b.length : Int)) = false := beq_eq_false_iff_ne.2 (by omega)
    have q2 : ((a.length : Int) = (b.length : Int)) = False := eq_false (by omega)
    have q3 : (a.length == b.length) = false := beq_eq_false_iff_ne.2 hl
    have q4 : (a.length = b.length) = False := eq_false hl
    clear hl hva hvb hn hm
    go_enter Try.func23, Try.ntmps23
    go_wp2
    go_ret
    exact ⟨by rw [decide_eq_false HN.out]; rfl, Fp.refl _ _⟩


/-- Ahead of a round of Index. -/
structure IxI (l : List Hl) (x : Hl) (w : World) (k : Nat) (wr : World) : Prop where
  fp : Fp Non w wr
  no : ∀ j (h : j < l.length), j < k → l[j] ≠ x
structure IxR (l : List Hl) (x : Hl) (w : World) (e : Ending) (w' : World) : Prop where
  ex : ∃ z : Int, e = .returned (.int .i64 z) ∧ (0 ≤ z ↔ x ∈ l)
  fp : Fp Non w w'

set_option maxHeartbeats 2000000 in
theorem IndexH_c (v : Value) (l : List Hl) (x : Hl) (w : World) (hv : NsH w v l) (hn : l.length ≤ 1000000) :
    Calls Try.prog 58 #[v, hlV x] w fun e w' => IxR l x w e w' := by
  obtain ⟨xd, xt, xa⟩ := x
  have f1 := fp_alloc w (.cells #[.string (B xd), .int .i64 xt, .int .i64 xa] TH)
  have hbx := heap_alloc_new w (.cells #[.string (B xd), .int .i64 xt, .int .i64 xa] TH)
  obtain ⟨ao, cap, rfl⟩ := hv.shape
  obtain ⟨n, hnn⟩ : ∃ n, n = l.length := ⟨_, rfl⟩
  have hnb : n ≤ 1000000 := by omega
  have HX := Lib.hid (And.intro hnn hv)
  have HF1 := Lib.hid (And.intro f1 hbx)
  rw [← hnn]
  have heq := eq_hls
  unfold hlV strV
  clear hv hn hnn f1 hbx
  simp only
  go_enter Try.func58, Try.ntmps58
  go_wp2_with fail
  go_loopw [8] (fun i wr => ∃ k : Nat, k ≤ n ∧ i = .int .i64 k ∧ Hid (IxI l ⟨xd, xt, xa⟩ (w.alloc (.cells #[.string (B xd), .int .i64 xt, .int .i64 xa] TH)) k wr)) (fun i _ => n - (RowKit.intOf i).toNat)
  case atStart => exact ⟨0, Nat.zero_le _, rfl, Fp.refl _ _, fun j _ h => absurd h (Nat.not_lt_zero j)⟩
  case round =>
    obtain ⟨k, hk, rfl, hR⟩ := hrel
    rename_i wr _
    have b1 := hR.out.fp.heap HF1.out.2 (fun h => h)
    have b2 : wr.cell? ⟨w.heap.size, 0, none⟩ = some (.string (B xd)) ∧ wr.cell? ⟨w.heap.size, 1, none⟩ = some (.int .i64 xt) ∧ wr.cell? ⟨w.heap.size, 2, none⟩ = some (.int .i64 xa) := ⟨by rw [cell_of_row _ _ _ _ _ _ b1]; rfl, by rw [cell_of_row _ _ _ _ _ _ b1]; rfl, by rw [cell_of_row _ _ _ _ _ _ b1]; rfl⟩
    obtain ⟨d0, d1, d2⟩ := b2
    have HFw := Lib.hid (HF1.out.1.then hR.out.fp)
    clear b1
    by_cases hlt : k < n
    · have hka : k < l.length := by rw [← HX.out.1]; exact hlt
      obtain ⟨g, o, cap', e, _, _, _, hcell⟩ := HX.out.2.at (by omega)
      injection e with e1 e2 e3
      subst e1 e3
      have hnd := (hcell k hka).keep HFw.out (fun h => h)
      have q3 : ((k : Int) < (n : Int)) = True := eq_true (by omega)
      have q4 : (k < n) = True := eq_true hlt
      have hnx := fun (e : l[k] ≠ ⟨xd, xt, xa⟩) wr' (f : Fp Non wr wr') => (show IxI l ⟨xd, xt, xa⟩ (w.alloc (.cells #[.string (B xd), .int .i64 xt, .int .i64 xa] TH)) (k + 1) wr' from ⟨hR.out.fp.then f, fun j hj hjk => by
        rcases Nat.lt_or_eq_of_le (show j ≤ k by omega) with e1 | e1
        · exact hR.out.no j hj e1
        · subst e1; exact e⟩)
      have hme : l[k] ∈ l := List.getElem_mem hka
      have HNX := Lib.hid (And.intro hnx hme)
      have HL := Lib.hid hlt
      clear hcell hnx hlt hme
      generalize l[k] = y at *
      have c0 := hnd.c0; have c1 := hnd.c1; have c2 := hnd.c2
      unfold strV at c0
      clear hnd hka
      obtain ⟨z, hz⟩ : ∃ z : Hl, z = ⟨xd, xt, xa⟩ := ⟨_, rfl⟩
      have he := fun w => eq_hls w ⟨xd, xt, xa⟩ y
      simp only at he
      by_cases hxy : (⟨xd, xt, xa⟩ : Hl) = y
      · have q5 : decide ((⟨xd, xt, xa⟩ : Hl) = y) = true := decide_eq_true hxy
        simp only [q5] at he
        have hM := Lib.hid hxy
        clear hxy hz heq q5
        go_wp2_with fail
        go_quiet (fail)
        go_wp2
        go_ret
        exact ⟨⟨_, rfl, by constructor
                           · intro _; rw [hM.out]; exact HNX.out.2
                           · intro _; omega⟩, HFw.out.drewN _⟩
      · have q5 : decide ((⟨xd, xt, xa⟩ : Hl) = y) = false := decide_eq_false hxy
        simp only [q5] at he
        have hM := Lib.hid (HNX.out.1 (fun e => hxy e.symm))
        have hj := HL.out
        clear hxy hz heq q5
        go_wp2_with fail
        go_quiet (fail)
        go_wp2
        go_roundw
        case rel => exact ⟨k + 1, by omega, by go_num, hM.out _ ((Fp.refl _ _).drewN _)⟩
        case measure => simp [RowKit.intOf]; omega
    · have hke : k = n := by omega
      subst hke
      have q3 : ((k : Int) < (k : Int)) = False := eq_false (by omega)
      have HN := Lib.hid (show (⟨xd, xt, xa⟩ : Hl) ∉ l from fun h => by
        obtain ⟨j, hj, e⟩ := List.getElem_of_mem h
        exact hR.out.no j hj (by rw [HX.out.1]; exact hj) e)
      clear hlt hk
      go_wp2
      go_ret
      exact ⟨⟨_, rfl, by constructor
                         · intro h; omega
                         · intro h; exact absurd h HN.out⟩, HFw.out⟩

set_option maxHeartbeats 1000000 in
theorem ContainsH_c (v : Value) (l : List Hl) (x : Hl) (w : World) (hv : NsH w v l) (hn : l.length ≤ 1000000) :
    Calls Try.prog 37 #[v, hlV x] w fun e w' => e = .returned (.bool (decide (x ∈ l))) ∧ Fp Non w w' := by
  have h1 := fun W (f : Fp Non w W) => IndexH_c v l x W (hv.non f) hn
  obtain ⟨xd, xt, xa⟩ := x
  have f1 := fp_alloc w (.cells #[.string (B xd), .int .i64 xt, .int .i64 xa] TH)
  have hbx := heap_alloc_new w (.cells #[.string (B xd), .int .i64 xt, .int .i64 xa] TH)
  obtain ⟨ao, cap, rfl⟩ := hv.shape
  unfold hlV strV at h1 ⊢
  simp only at h1 ⊢
  have d0 : (w.alloc (.cells #[.string (B xd), .int .i64 xt, .int .i64 xa] TH)).cell? ⟨w.heap.size, 0, none⟩ = some (.string (B xd)) := by rw [cell_of_row _ _ _ _ _ _ hbx]; rfl
  have d1 : (w.alloc (.cells #[.string (B xd), .int .i64 xt, .int .i64 xa] TH)).cell? ⟨w.heap.size, 1, none⟩ = some (.int .i64 xt) := by rw [cell_of_row _ _ _ _ _ _ hbx]; rfl
  have d2 : (w.alloc (.cells #[.string (B xd), .int .i64 xt, .int .i64 xa] TH)).cell? ⟨w.heap.size, 2, none⟩ = some (.int .i64 xa) := by rw [cell_of_row _ _ _ _ _ _ hbx]; rfl
  obtain ⟨b, hb⟩ : ∃ b, decide ((⟨xd, xt, xa⟩ : Hl) ∈ l) = b := ⟨_, rfl⟩
  rw [hb]
  have HB := Lib.hid hb
  have H1 := Lib.hid (h1 _ f1)
  have HF := Lib.hid f1
  generalize l.length = n at *
  clear h1 f1 hbx hv hn hb
  go_enter Try.func37, Try.ntmps37
  go_wp2_with fail
  refine H1.out.mono ?_
  rintro e w1 hR
  obtain ⟨z, rfl, hz⟩ := hR.ex
  have HZ := Lib.hid (And.intro hz (HF.out.then hR.fp))
  clear hz hR d0 d1 d2
  go_wp2
  go_ret
  refine ⟨ret_bool ?_, HZ.out.2⟩
  rw [← HB.out]
  exact decide_eq_decide.2 HZ.out.1
end Go.Proofs.Ytcjpgenlhphapaa
