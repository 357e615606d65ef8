/- A text of this proof. -/
import Derived.Test.YtphoglepiegeiaaGreatDoorZAD
import Derived.Test.YtphoglepiegeiaaGreatDoorZAE
import Derived.Test.YtphoglepiegeiaaGreatDoorZAI
namespace Go.Proofs.YtphoglepiegeiaaGreatDoor
set_option linter.unusedSimpArgs false
set_option linter.unusedVariables false
set_option maxRecDepth 20000
set_option linter.unusedVariables false
set_option linter.unusedSimpArgs false
open Go.RowKit Pm
set_option maxHeartbeats 1000000 in
theorem GreatOp_c (o : Opn) (w : World) :
  Calls Tryz.prog 25 #[opV o] w fun e w' => ∃ c, e = .returned (.bool c) ∧ (c = false → o.path.length ≤ 3000 ∧ o.data.length ≤ 3000) ∧ Fp Non w w' := by
 obtain ⟨kk, p, d, v, ow, t⟩ := o
 unfold opV strV
 have lenB : ∀ l : Bs, (B l).data.size = l.length := fun l => by unfold B; simp
 by_cases h1 : 3000 < p.length
 ·have q1 : (3000 < p.length) = True := eq_true h1
  have q2 : ((3000 : Int) < (p.length : Int)) = True := eq_true (by omega)
  clear h1
  go_enter Tryz.func25, Tryz.ntmps25
  go_wp2
  go_ret
  exact ⟨_, rfl, fun h => by simp at h, (Fp.refl Non w).alloc _⟩
 ·have q1 : (3000 < p.length) = False := eq_false h1
  have q2 : ((3000 : Int) < (p.length : Int)) = False := eq_false (by omega)
  by_cases h2 : 3000 < d.length
  ·have q3 : (3000 < d.length) = True := eq_true h2
   have q4 : ((3000 : Int) < (d.length : Int)) = True := eq_true (by omega)
   clear h1 h2
   go_enter Tryz.func25, Tryz.ntmps25
   go_wp2
   go_ret
   exact ⟨_, rfl, fun h => by simp at h, (Fp.refl Non w).alloc _⟩
  ·have q3 : (3000 < d.length) = False := eq_false h2
   have q4 : ((3000 : Int) < (d.length : Int)) = False := eq_false (by omega)
   have HL := Lib.hid (show p.length ≤ 3000 ∧ d.length ≤ 3000 by omega)
   clear h1 h2
   go_enter Tryz.func25, Tryz.ntmps25
   go_wp2
   go_ret
   exact ⟨_, rfl, fun _ => HL.out, (Fp.refl Non w).alloc _⟩
theorem box5 {w : World} {b : Nat} {T : TypeId} {c0 c1 c2 c3 c4 : Value} (h : w.heap[b]? = some (.cells #[c0, c1, c2, c3, c4] T (0, 0))) :
  w.cell? ⟨b, 0, none⟩ = some c0 ∧ w.cell? ⟨b, 1, none⟩ = some c1 ∧ w.cell? ⟨b, 2, none⟩ = some c2 ∧ w.cell? ⟨b, 3, none⟩ = some c3 ∧ w.cell? ⟨b, 4, none⟩ = some c4 :=
 ⟨by rw [cell_of_row _ _ _ _ _ _ h]; rfl, by rw [cell_of_row _ _ _ _ _ _ h]; rfl, by rw [cell_of_row _ _ _ _ _ _ h]; rfl, by rw [cell_of_row _ _ _ _ _ _ h]; rfl, by rw [cell_of_row _ _ _ _ _ _ h]; rfl⟩
structure RfM (l : List Nd) (p : Bs) (w : World) (k : Nat) (wr : World) : Prop where
 row : wr.heap[w.heap.size]? = some (.cells #[.string ⟨#[]⟩, .string ⟨#[]⟩, .int .i64 0, .int .i64 0, .int .i64 0] TN (0, 0))
 fp : Fp Non w wr
 no : ∀ j (hj : j < l.length), j < k → l[j].path ≠ p
theorem RfM.next {l : List Nd} {p : Bs} {w wr : World} {k : Nat} (h : RfM l p w k wr) (hk : k < l.length) (hp : l[k].path ≠ p) : RfM l p w (k + 1) wr :=
 ⟨h.row, h.fp, fun j hj hjk => by
  rcases Nat.lt_or_eq_of_le (show j ≤ k by omega) with e | e
  ·exact h.no j hj e
  ·subst e; exact hp⟩
theorem RfM.found {l : List Nd} {p : Bs} {w wr : World} {k : Nat} (h : RfM l p w k wr) (hk : k < l.length) (hp : l[k].path = p) : find l p = some l[k] := by
 unfold find
 rw [List.find?_eq_some_iff_getElem]
 refine ⟨by simp [hp], k, hk, rfl, fun j hji => ?_⟩
 have := h.no j (by omega) hji
 simp [this]
theorem RfM.none {l : List Nd} {p : Bs} {w wr : World} {k : Nat} (h : RfM l p w k wr) (hk : k = l.length) : find l p = none := by
 rw [find_none]
 intro x hx
 obtain ⟨j, hj, rfl⟩ := List.getElem_of_mem hx
 exact h.no j hj (by omega)
set_option maxHeartbeats 2000000 in
theorem rFind_c (v : Value) (l : List Nd) (p : Bs) (w : World) (hv : Ns w v l) (hn : l.length ≤ 1000000) :
  Calls Tryz.prog 60 #[v, .string (B p)] w fun e w' => e = .returned (.tuple #[ndV ((find l p).getD zeroNd), .bool (find l p).isSome]) ∧ Fp Non w w' := by
 obtain ⟨ao, cap, rfl⟩ := hv.shape
 obtain ⟨n, hnn⟩ : ∃ n, n = l.length := ⟨_, rfl⟩
 have HX := Lib.hid (And.intro hnn hv)
 rw [← hnn]
 have hnb : n ≤ 1000000 := by omega
 have H0 : Hid (RfM l p w 0 (w.alloc (.cells #[.string ⟨#[]⟩, .string ⟨#[]⟩, .int .i64 0, .int .i64 0, .int .i64 0] TN))) := ⟨heap_alloc_new w _, (Fp.refl Non w).alloc _, fun j _ h => absurd h (Nat.not_lt_zero j)⟩
 clear hv hn hnn
 go_enter Tryz.func60, Tryz.ntmps60
 go_wp2_with fail
 go_loopw [6] (fun i wr => ∃ k : Nat, k ≤ n ∧ i = .int .i64 k ∧ Hid (RfM l p w k wr)) (fun i _ => n - (RowKit.intOf i).toNat)
 case atStart => exact ⟨0, Nat.zero_le _, rfl, H0⟩
 case round =>
  clear H0
  obtain ⟨k, hk, rfl, hR⟩ := hrel
  rename_i wr _
  have HB := Lib.hid hR.out.row
  have HF := Lib.hid hR.out.fp
  obtain ⟨r0, r1, r2, r3, r4⟩ := box5 hR.out.row
  have fz : ∀ j, wr.frozen? ⟨w.heap.size, j, none⟩ = false := fun j => by simp [World.frozen?, HB.out]
  have f0 := fz 0; have f1 := fz 1; have f2 := fz 2; have f3 := fz 3; have f4 := fz 4
  clear fz
  by_cases hlt : k < n
  ·have hkl : k < l.length := by rw [← HX.out.1]; exact hlt
   obtain ⟨g, o, cap', e, _, _, _, hcell⟩ := HX.out.2.at (by omega)
   injection e with e1 e2 e3
   subst e1 e3
   have hnd := (hcell k hkl).keep hR.out.fp (fun h => h)
   have q3 : ((k : Int) < (n : Int)) = True := eq_true (by omega)
   have q4 : (k < n) = True := eq_true hlt
   have hnx := fun h => hR.out.next hkl h
   have hfd := fun h => hR.out.found hkl h
   have HNX := Lib.hid hnx
   have HFD := Lib.hid hfd
   have HL := Lib.hid hlt
   clear hcell hnx hfd hlt
   generalize l[k] = x at *
   clear hkl
   have c0 := hnd.c0; have c1 := hnd.c1; have c2 := hnd.c2; have c3 := hnd.c3; have c4 := hnd.c4
   unfold strV at c0 c1
   clear hnd
   by_cases hp : x.path = p
   ·have HFN := Lib.hid (HFD.out hp)
    have q5 : (x.path == p) = true := beq_iff_eq.2 hp
    have q6 : (x.path = p) = True := eq_true hp
    clear hp
    go_wp2
    have hw9 := set5 HB.out (.string (B x.path)) (.string (B x.data)) (.int .i64 x.ver) (.int .i64 x.turn) (.int .i64 x.own)
    have hf9 := fp5 (S := Non) HF.out (b := w.heap.size) (.inr (Nat.le_refl _)) (.string (B x.path)) (.string (B x.data)) (.int .i64 x.ver) (.int .i64 x.turn) (.int .i64 x.own)
    generalize (((((World.setCell wr _ _).setCell _ _).setCell _ _).setCell _ _).setCell _ _) = w9 at *
    have s0 := cell_of_row _ w.heap.size 0 _ _ _ hw9
    have s1 := cell_of_row _ w.heap.size 1 _ _ _ hw9
    have s2 := cell_of_row _ w.heap.size 2 _ _ _ hw9
    have s3 := cell_of_row _ w.heap.size 3 _ _ _ hw9
    have s4 := cell_of_row _ w.heap.size 4 _ _ _ hw9
    simp only [zA, zB, zC] at s0 s1 s2 s3 s4
    exact bodyPost_ret (v := .tuple #[.agg #[.string (B x.path), .string (B x.data), .int .i64 x.ver, .int .i64 x.turn, .int .i64 x.own], .bool true]) (by simp [results, Tryz.results60, go_sem, s0, s1, s2, s3, s4]) rfl ⟨by rw [HFN.out]; rfl, hf9⟩
   ·have hM := Lib.hid (HNX.out hp)
    have q5 : (x.path == p) = false := beq_eq_false_iff_ne.2 hp
    have q6 : (x.path = p) = False := eq_false hp
    have hj := HL.out
    clear hp r0 r1 r2 r3 r4 f0 f1 f2 f3 f4
    go_wp2
    go_roundw
    case rel => exact ⟨k + 1, by omega, by go_num, hM⟩
    case measure => simp [RowKit.intOf]; omega
  ·have hke : k = n := by omega
   subst hke
   have q3 : ((k : Int) < (k : Int)) = False := eq_false (by omega)
   have hfin := hR.out.none HX.out.1
   have HFN := Lib.hid hfin
   clear hlt hk hfin
   go_wp2
   have hw9 := set5 HB.out (.string ⟨#[]⟩) (.string ⟨#[]⟩) (.int .i64 0) (.int .i64 0) (.int .i64 0)
   have hf9 := fp5 (S := Non) HF.out (b := w.heap.size) (.inr (Nat.le_refl _)) (.string ⟨#[]⟩) (.string ⟨#[]⟩) (.int .i64 0) (.int .i64 0) (.int .i64 0)
   generalize (((((World.setCell wr _ _).setCell _ _).setCell _ _).setCell _ _).setCell _ _) = w9 at *
   have s0 := cell_of_row _ w.heap.size 0 _ _ _ hw9
   have s1 := cell_of_row _ w.heap.size 1 _ _ _ hw9
   have s2 := cell_of_row _ w.heap.size 2 _ _ _ hw9
   have s3 := cell_of_row _ w.heap.size 3 _ _ _ hw9
   have s4 := cell_of_row _ w.heap.size 4 _ _ _ hw9
   simp only [zA, zB, zC] at s0 s1 s2 s3 s4
   exact bodyPost_ret (v := .tuple #[.agg #[.string ⟨#[]⟩, .string ⟨#[]⟩, .int .i64 0, .int .i64 0, .int .i64 0], .bool false]) (by simp [results, Tryz.results60, go_sem, s0, s1, s2, s3, s4]) rfl ⟨by rw [HFN.out]; rfl, hf9⟩
end Go.Proofs.YtphoglepiegeiaaGreatDoor
namespace Go.Proofs.YtphoglepiegeiaaGreatDoor
set_option maxRecDepth 20000
set_option linter.unusedVariables false
set_option linter.unusedSimpArgs false
open Go.RowKit Pm
theorem fN : (Tryz.prog.fieldsOf TN).toList = [⟨ "Path", 9, 0, false, "", "", 0⟩, ⟨ "Data", 9, 1, false, "", "", 16⟩, ⟨ "Version", 2, 2, false, "", "", 32⟩, ⟨ "Turn", 2, 3, false, "", "", 40⟩, ⟨ "Owner", 2, 4, false, "", "", 48⟩] := by kernel_rfl
theorem eq_nd (w : World) (p p' d d' : ByteArray) (v v' t t' o o' : Int) : (Op.equalIn 10000 TN (.agg #[.string p, .string d, .int .i64 v, .int .i64 t, .int .i64 o]) (.agg #[.string p', .string d', .int .i64 v', .int .i64 t', .int .i64 o'])).run Tryz.prog w =
  .ok (decide (p.toList = p'.toList ∧ d.toList = d'.toList ∧ v = v' ∧ t = t' ∧ o = o')) w := by
 rw [run_equalIn_agg w 9999 TN _ _ (by kernel_rfl) (by kernel_rfl), fN]
 have e2 := fun w a b => run_equalIn_int (P := Tryz.prog) w 9998 2 .i64 .i64 a b Tryz.underlying2
 have e3 := fun w a b => run_equalIn_string (P := Tryz.prog) w 9998 9 a b Tryz.underlying9
 simp only [Op.eqFields]
 simp [e2, e3, go_sem]
 by_cases h2 : p.toList = p'.toList <;> by_cases h3 : d.toList = d'.toList <;> by_cases h4 : v = v' <;> by_cases h5 : t = t' <;> by_cases h6 : o = o' <;> simp [h2, h3, h4, h5, h6]
theorem B_list (l : Bs) : (B l).toList = l := by
 unfold B; simp [ByteArray.toList_eq]
theorem eq_nds (w : World) (x y : Nd) : (Op.equalIn 10000 TN (.agg #[.string (B x.path), .string (B x.data), .int .i64 x.ver, .int .i64 x.turn, .int .i64 x.own]) (.agg #[.string (B y.path), .string (B y.data), .int .i64 y.ver, .int .i64 y.turn, .int .i64 y.own])).run Tryz.prog w = .ok (decide (x = y)) w := by
 rw [eq_nd]
 congr 1
 simp only [B_list]
 obtain ⟨_, _, _, _, _⟩ := x
 obtain ⟨_, _, _, _, _⟩ := y
 simp
structure SaM (a b : List Nd) (w : World) (k : Nat) (wr : World) : Prop where
 fp : Fp Non w wr
 eq : a.take k = b.take k
theorem take_succ_eq {a b : List Nd} {k : Nat} (ha : k < a.length) (hb : k < b.length) (h : a.take k = b.take k) (e : a[k] = b[k]) : a.take (k + 1) = b.take (k + 1) := by
 rw [List.take_succ_eq_append_getElem ha, List.take_succ_eq_append_getElem hb, h, e]
set_option maxHeartbeats 2000000 in
theorem rSameN_c (va vb : Value) (a b : List Nd) (w : World) (hva : Ns w va a) (hvb : Ns w vb b) (hn : a.length ≤ 1000000) (hm : b.length ≤ 1000000) :
  Calls Tryz.prog 34 #[va, vb] w fun e w' => e = .returned (.bool (decide (a = b))) ∧ Fp Non w w' := by
 obtain ⟨ao, ca, rfl⟩ := hva.shape
 obtain ⟨bo, cb, rfl⟩ := hvb.shape
 by_cases hl : a.length = b.length
 ·obtain ⟨n, hnn⟩ : ∃ n, n = a.length := ⟨_, rfl⟩
  have hnb : n ≤ 1000000 := by omega
  have HX := Lib.hid (And.intro hnn (And.intro (show n = b.length by omega) (And.intro hva hvb)))
  rw [← hl, ← hnn]
  have H0 : Hid (SaM a b w 0 w) := ⟨Fp.refl _ _, by simp⟩
  have heq := eq_nds
  clear hva hvb hl hn hm hnn
  go_enter Tryz.func34, Tryz.ntmps34
  go_wp2_with fail
  go_loopw [5] (fun i wr => ∃ k : Nat, k ≤ n ∧ i = .int .i64 k ∧ Hid (SaM a b w k wr)) (fun i _ => n - (RowKit.intOf i).toNat)
  case atStart => exact ⟨0, Nat.zero_le _, rfl, H0⟩
  case round =>
   clear H0
   obtain ⟨k, hk, rfl, hR⟩ := hrel
   rename_i wr _
   by_cases hlt : k < n
   ·have hka : k < a.length := by rw [← HX.out.1]; exact hlt
    have hkb : k < b.length := by rw [← HX.out.2.1]; exact hlt
    obtain ⟨g, o, cap', e, _, _, _, hcell⟩ := HX.out.2.2.1.at (by omega)
    injection e with e1 e2 e3
    subst e1 e3
    obtain ⟨g', o', cap', e, _, _, _, hcell'⟩ := HX.out.2.2.2.at (by omega)
    injection e with e1 e2 e3
    subst e1 e3
    have hnd := (hcell k hka).keep hR.out.fp (fun h => h)
    have hnd' := (hcell' k hkb).keep hR.out.fp (fun h => h)
    have q3 : ((k : Int) < (n : Int)) = True := eq_true (by omega)
    have q4 : (k < n) = True := eq_true hlt
    have hnx := fun e wr' (f : Fp Non wr wr') => (show SaM a b w (k + 1) wr' from ⟨hR.out.fp.then f, take_succ_eq hka hkb hR.out.eq e⟩)
    have hno := fun (e : a[k] ≠ b[k]) => (show a ≠ b from fun h => e (by subst h; rfl))
    have HNX := Lib.hid hnx
    have HNO := Lib.hid hno
    have HL := Lib.hid hlt
    clear hcell hcell' hnx hno hlt
    generalize a[k] = x at *
    generalize b[k] = y at *
    have c0 := hnd.c0; have c1 := hnd.c1; have c2 := hnd.c2; have c3 := hnd.c3; have c4 := hnd.c4
    have d0 := hnd'.c0; have d1 := hnd'.c1; have d2 := hnd'.c2; have d3 := hnd'.c3; have d4 := hnd'.c4
    unfold strV at c0 c1 d0 d1
    clear hnd hnd' hka hkb
    by_cases hxy : x = y
    ·have q5 : decide (x = y) = true := decide_eq_true hxy
     have q6 : (x = y) = True := eq_true hxy
     have hM := Lib.hid (HNX.out hxy)
     have hj := HL.out
     clear hxy
     go_wp2_with fail
     go_quiet (fail)
     go_wp2
     go_roundw
     case rel => exact ⟨k + 1, by omega, by go_num, hM.out _ ((Fp.refl _ _).drewN _)⟩
     case measure => simp [RowKit.intOf]; omega
    ·have q5 : decide (x = y) = false := decide_eq_false hxy
     have q6 : (x = y) = False := eq_false hxy
     have HN := Lib.hid (HNO.out hxy)
     clear hxy
     go_wp2_with fail
     go_quiet (fail)
     go_wp2
     go_ret
     exact ⟨by rw [decide_eq_false HN.out]; rfl, hR.out.fp.drewN _⟩
   ·have hke : k = n := by omega
    subst hke
    have q3 : ((k : Int) < (k : Int)) = False := eq_false (by omega)
    have hfin : a = b := by
     have := hR.out.eq
     rw [HX.out.1, List.take_length, ← HX.out.1, HX.out.2.1, List.take_length] at this; exact this
    have HFN := Lib.hid hfin
    clear hlt hk hfin
    go_wp2
    go_ret
    exact ⟨by rw [decide_eq_true HFN.out]; rfl, hR.out.fp⟩
 ·have HN := Lib.hid (show a ≠ b from fun h => hl (by rw [h]))
  have q1 : ((a.length : Int) == (b.length : Int)) = false := beq_eq_false_iff_ne.2 (by omega)
  have q2 : ((a.length : Int) = (b.length : Int)) = False := eq_false (by omega)
  have q3 : (a.length == b.length) = false := beq_eq_false_iff_ne.2 hl
  have q4 : (a.length = b.length) = False := eq_false hl
  clear hl hva hvb hn hm
  go_enter Tryz.func34, Tryz.ntmps34
  go_wp2
  go_ret
  exact ⟨by rw [decide_eq_false HN.out]; rfl, Fp.refl _ _⟩
end Go.Proofs.YtphoglepiegeiaaGreatDoor
namespace Go.Proofs.YtphoglepiegeiaaGreatDoor
set_option maxRecDepth 20000
open Go.RowKit Pm
set_option maxHeartbeats 1000000 in
theorem lies1_c (n : Nd) (g : Nat) (p : Bs) (w : World) (hn : n.path.length ≤ 1000000) (hg : w.cell? ⟨g, 0, none⟩ = some (.string (B p))) :
  Calls Tryz.prog 169 #[ndV n, .pointer (some ⟨g, 0, none⟩)] w fun e w' => e = .returned (.bool (parent n.path == some p)) ∧ Fp Non w w' := by
 obtain ⟨np, d, v, t, o⟩ := n
 unfold ndV strV
 have hf : ∀ o, Fp Non w (w.alloc o) := fun o => (Fp.refl Non w).alloc o
 have hpar := fun w => Parent_g np w (sz_of hn (by omega))
 have HF := Lib.hid hf
 have HG := Lib.hid hg
 show Calls _ _ _ _ (fun e w' => e = .returned (.bool (parent np == some p)) ∧ _)
 cases hu : parent np with
 | none =>
  rw [hu] at hpar
  have HP := Lib.hid hpar
  clear hpar hu hf hg hn
  go_enter Tryz.func169, Tryz.ntmps169
  go_wp2_with fail
  refine (HP.out _).mono ?_
  rintro e w1 ⟨rfl, g1⟩
  have F := Lib.hid ((HF.out _).then g1.fp)
  clear g1
  go_wp2
  go_ret
  exact ⟨rfl, F.out⟩
 | some u =>
  rw [hu] at hpar
  have HP := Lib.hid hpar
  have hb : (some u == some p) = (u == p) := rfl
  rw [hb]
  clear hpar hu hf hg hn hb
  go_enter Tryz.func169, Tryz.ntmps169
  go_wp2_with fail
  refine (HP.out _).mono ?_
  rintro e w1 ⟨rfl, g1⟩
  have f1 := (HF.out _).then g1.fp
  have c1 := f1.cell HG.out (fun h => h)
  have F := Lib.hid f1
  clear g1 f1
  go_wp2
  all_goals (go_ret; exact ⟨rfl, F.out⟩)
theorem lies_pd (w : World) (g : Nat) (p : Bs) (hg : w.cell? ⟨g, 0, none⟩ = some (.string (B p))) (S : Nat → Prop) (hS : ¬ S g) :
  Pd S w (.func (.func 169) #[] #[.pointer (some ⟨g, 0, none⟩)]) (fun n => parent n.path == some p) :=
 ⟨_, _, _, rfl, enters_of Tryz.func169 (by kernel_rfl) rfl, fun n w1 hn hf => lies1_c n g p w1 hn (hf.cell hg hS)⟩
set_option maxHeartbeats 1000000 in
theorem liesIn_c (p : Bs) (w : World) :
  Calls Tryz.prog 132 #[.string (B p)] w fun e w' => e = .returned (.func (.func 169) #[] #[.pointer (some ⟨w.heap.size, 0, none⟩)]) ∧ w' = w.alloc (.cells #[.string (B p)] 9) := by
 go_enter Tryz.func132, Tryz.ntmps132
 go_wp2
 go_ret
 exact ⟨rfl, rfl⟩
theorem liesIn_pd (p : Bs) (w : World) (S : Nat → Prop) (hS : ∀ k, S k → k < w.heap.size) : Pd S (w.alloc (.cells #[.string (B p)] 9)) (.func (.func 169) #[] #[.pointer (some ⟨w.heap.size, 0, none⟩)]) (fun n => parent n.path == some p) :=
 lies_pd _ _ p (by rw [cell_of_row _ _ _ _ _ _ (heap_alloc_new w _)]; rfl) S (fun h => by have := hS _ h; omega)
set_option maxHeartbeats 1000000 in
theorem placeP1_c (n : Nd) (p : Bs) (w : World) :
  Calls Tryz.prog 151 #[ndV n, .string (B p)] w fun e w' => e = .returned (.int .i64 (cmpI n.path p)) ∧ Fp Non w w' := by
 obtain ⟨np, d, v, t, o⟩ := n
 unfold ndV strV
 have hf : ∀ o, Fp Non w (w.alloc o) := fun o => (Fp.refl Non w).alloc o
 have hc := fun w => Tryz.strings_Compare (B np) (B p) w
 have e : ∀ l : Bs, (B l).data.toList = l := fun l => by unfold B; rfl
 simp only [e, cmp_eq] at hc
 have HF := Lib.hid hf
 have HC := Lib.hid hc
 clear hf hc e
 go_enter Tryz.func151, Tryz.ntmps151
 go_wp2_with fail
 refine (HC.out _).mono ?_
 rintro e w1 ⟨rfl, rfl⟩
 go_wp2
 go_ret
 exact ⟨rfl, HF.out _⟩
set_option maxHeartbeats 2000000 in
theorem SearchP_c (v : Value) (l : List Nd) (p : Bs) (w : World) (hv : Ns w v l) (ha : Asc l) (hn : l.length ≤ 1000000) :
  Calls Tryz.prog 150 #[v, .string (B p), .func (.func 151) #[] #[]] w fun e w' => e = .returned (.tuple #[.int .i64 (place l p), .bool (find l p).isSome]) ∧ Fp Non w w' := by
 obtain ⟨ao, cap, rfl⟩ := hv.shape
 obtain ⟨n, hnn⟩ : ∃ n, n = l.length := ⟨_, rfl⟩
 have HX := Lib.hid (And.intro hnn (And.intro hv ha))
 have H0 : Hid (BsM l p w 0 n w) := ⟨Fp.refl _ _, fun x _ h => absurd h (Nat.not_lt_zero x), fun x h1 h2 => by omega, Nat.zero_le _, by omega⟩
 rw [← hnn]
 have hnb : n ≤ 1000000 := by omega
 clear hv ha hn hnn
 go_enter Tryz.func150, Tryz.ntmps150
 go_wp2_with fail
 go_loopw [9, 10] (fun i j wr => ∃ a b : Nat, a ≤ n ∧ b ≤ n ∧ i = .int .i64 a ∧ j = .int .i64 b ∧ Hid (BsM l p w a b wr)) (fun i j _ => (RowKit.intOf j).toNat - (RowKit.intOf i).toNat)
 case atStart => exact ⟨0, n, Nat.zero_le _, Nat.le_refl _, rfl, rfl, H0⟩
 case round =>
  obtain ⟨a, b, han, hbn, rfl, rfl, hR⟩ := hrel
  rename_i wr _
  by_cases hlt : a < b
  ·obtain ⟨h, hh⟩ : ∃ h, h = (a + b) / 2 := ⟨_, rfl⟩
   have hab : a ≤ h ∧ h < b := by omega
   have he : ((a : Int) + (b : Int)) / 2 = (h : Int) := by omega
   have hhl : h < l.length := by rw [← HX.out.1]; omega
   have q5 : (h < n) = True := eq_true (by omega)
   have q6 : ((h : Int) < (n : Int)) = True := eq_true (by omega)
   obtain ⟨g, o, cap', e, _, _, _, hcell⟩ := HX.out.2.1.at (by omega)
   injection e with e1 e2 e3
   subst e1 e3
   have hnd := (hcell h hhl).keep hR.out.fp (fun h => h)
   have hdn : lt l[h].path p = true → ∀ x (hx : x < l.length), x < h + 1 → lt l[x].path p = true := fun k x hx hxh => by
    rcases Nat.lt_or_eq_of_le (show x ≤ h by omega) with e | e
    ·exact lt_trans (HX.out.2.2 x h hx hhl e) k
    ·subst e; exact k
   have hup : lt l[h].path p = false → ∀ x (hx : x < l.length), h ≤ x → lt l[x].path p = false := fun k x hx hxh => by
    rcases Nat.lt_or_eq_of_le hxh with e | e
    ·cases c : lt l[x].path p with
     | false => rfl
     | true => rw [lt_trans (HX.out.2.2 h x hhl hx e) c] at k; cases k
    ·subst e; exact k
   have hpc := fun w => placeP1_c l[h] p w
   have HB := Lib.hid (And.intro hdn hup)
   have HA := Lib.hid (And.intro hab (And.intro han hbn))
   clear hcell hdn hup hh han hbn
   generalize l[h] = y at *
   have c0 := hnd.c0; have c1 := hnd.c1; have c2 := hnd.c2; have c3 := hnd.c3; have c4 := hnd.c4
   unfold strV at c0 c1
   unfold ndV strV at hpc
   have q3 : ((a : Int) < (b : Int)) = True := eq_true (by omega)
   have q4 : (a < b) = True := eq_true hlt
   have hcmp : ∃ z, cmpI y.path p = z := ⟨_, rfl⟩
   obtain ⟨z, hz⟩ := hcmp
   rw [hz] at hpc
   have HPC := Lib.hid hpc
   have hhb : h ≤ 1000000 := by have := HA.out; omega
   clear hnd hpc hhl hlt hab
   by_cases hlo : lt y.path p = true
   ·have z0 : (z < 0) = True := eq_true (by rw [← hz]; unfold cmpI; rw [if_pos hlo]; decide)
    have HLo := Lib.hid hlo
    clear hz hlo
    go_wp2_with fail
    refine (HPC.out _).mono ?_
    rintro e w2 ⟨rfl, hf2⟩
    have hM : Hid (BsM l p w (h + 1) b w2) := ⟨hR.out.fp.then hf2, HB.out.1 HLo.out, hR.out.hi, by have := HA.out.1; omega, hR.out.jn⟩
    clear hf2
    go_wp2
    go_roundw
    case rel => exact ⟨h + 1, b, by have := HA.out; omega, HA.out.2.2, by go_num, rfl, hM⟩
    case measure => have := HA.out; simp [RowKit.intOf]; omega
   ·have hlo' : lt y.path p = false := by simpa using hlo
    have z0 : (z < 0) = False := eq_false (by rw [← hz]; unfold cmpI; rw [if_neg hlo]; split <;> decide)
    have HLo := Lib.hid hlo'
    clear hz hlo hlo'
    go_wp2_with fail
    refine (HPC.out _).mono ?_
    rintro e w2 ⟨rfl, hf2⟩
    have hM : Hid (BsM l p w a h w2) := ⟨hR.out.fp.then hf2, hR.out.lo, HB.out.2 HLo.out, by have := HA.out.1; omega, by have := HA.out.1; have := hR.out.jn; omega⟩
    clear hf2
    go_wp2
    go_roundw
    case rel => exact ⟨a, h, HA.out.2.1, by have := HA.out; omega, rfl, rfl, hM⟩
    case measure => have := HA.out; simp [RowKit.intOf]; omega
  ·have hab : a = b := by have := hR.out.ij; omega
   subst hab
   have hpl : place l p = a := place_of hR.out.jn hR.out.lo hR.out.hi
   have q3 : ((a : Int) < (a : Int)) = False := eq_false (by omega)
   have hfp := find_place HX.out.2.2 p
   rw [hpl] at hfp
   have HP := Lib.hid hpl
   by_cases hal : a < n
   ·have hal' : a < l.length := by rw [← HX.out.1]; exact hal
    rw [dif_pos hal'] at hfp
    obtain ⟨g, o, cap', e, _, _, _, hcell⟩ := HX.out.2.1.at (by omega)
    injection e with e1 e2 e3
    subst e1 e3
    have hnd := (hcell a hal').keep hR.out.fp (fun h => h)
    have hpc := fun w => placeP1_c l[a] p w
    have hnl := hR.out.hi a hal' (Nat.le_refl _)
    clear hcell
    generalize l[a] = y at *
    have c0 := hnd.c0; have c1 := hnd.c1; have c2 := hnd.c2; have c3 := hnd.c3; have c4 := hnd.c4
    unfold strV at c0 c1
    unfold ndV strV at hpc
    have q5 : ((a : Int) < (n : Int)) = True := eq_true (by omega)
    have q6 : (a < n) = True := eq_true hal
    obtain ⟨z, hz⟩ : ∃ z, cmpI y.path p = z := ⟨_, rfl⟩
    have hze : (z == 0) = (find l p).isSome := by
     rw [hfp, ← hz]; unfold cmpI
     rw [if_neg (by rw [hnl]; exact Bool.false_ne_true)]
     by_cases e : y.path = p
     ·rw [if_pos e, if_pos e]; rfl
     ·rw [if_neg e, if_neg e]; rfl
    rw [hz] at hpc
    have HPC := Lib.hid hpc
    have HZ := Lib.hid hze
    clear hnd hpc hz hze hfp hnl hal hal' hpl han hbn
    go_wp2_with fail
    refine (HPC.out _).mono ?_
    rintro e w2 ⟨rfl, hf2⟩
    have HF := Lib.hid (hR.out.fp.then hf2)
    clear hf2
    go_wp2
    go_ret2
    exact ⟨by rw [HP.out, ← HZ.out]; rfl, HF.out⟩
   ·have q5 : ((a : Int) < (n : Int)) = False := eq_false (by omega)
    have q6 : (a < n) = False := eq_false hal
    rw [dif_neg (by rw [← HX.out.1]; exact hal)] at hfp
    have HFN := Lib.hid hfp
    clear hfp hpl hal hlt han hbn
    go_wp2
    go_ret2
    exact ⟨by rw [HP.out, HFN.out]; rfl, hR.out.fp⟩
set_option maxHeartbeats 1000000 in
theorem placeP_c (v : Value) (l : List Nd) (p : Bs) (w : World) (hv : Ns w v l) (ha : Asc l) (hn : l.length ≤ 1000000) :
  Calls Tryz.prog 107 #[v, .string (B p)] w fun e w' => e = .returned (.tuple #[.int .i64 (place l p), .bool (find l p).isSome]) ∧ Fp Non w w' := by
 have hs := SearchP_c v l p w hv ha hn
 obtain ⟨ao, cap, rfl⟩ := hv.shape
 generalize l.length = n at *
 have HS := Lib.hid hs
 clear hs hv hn ha
 go_enter Tryz.func107, Tryz.ntmps107
 go_wp2_with fail
 refine HS.out.mono ?_
 rintro e w1 ⟨rfl, hf⟩
 have HF := Lib.hid hf
 clear hf
 go_wp2
 go_ret2
 exact ⟨rfl, HF.out⟩
end Go.Proofs.YtphoglepiegeiaaGreatDoor
namespace Go.Proofs.YtphoglepiegeiaaGreatDoor
set_option maxRecDepth 20000
set_option linter.unusedVariables false
set_option linter.unusedSimpArgs false
open Go.RowKit Pm
abbrev TS : TypeId := 87
structure Sw (lo b : Nat) (vn vt : Value) (s : St) (w : World) : Prop where
 blk : w.heap[b]? = some (.cells #[vn, vt] TS (0, 0))
 low : lo ≤ b
 own : Ow lo w vn s.nodes
 ownT : OwT lo w vt s.turns
 neN : vn.ownBlock ≠ some b
 neT : vt.ownBlock ≠ some b
 apart : ∀ k, vn.ownBlock = some k → vt.ownBlock ≠ some k
section
variable {lo b : Nat} {vn vt : Value} {s : St} {w w' : World}
theorem Sw.non (h : Sw lo b vn vt s w) (f : Fp Non w w') : Sw lo b vn vt s w' := ⟨f.heap h.blk (fun h => h), h.low, h.own.non f, h.ownT.non f, h.neN, h.neT, h.apart⟩
theorem Sw.c0 (h : Sw lo b vn vt s w) : w.cell? ⟨b, 0, none⟩ = some vn := by rw [cell_of_row _ _ _ _ _ _ h.blk]; rfl
theorem Sw.c1 (h : Sw lo b vn vt s w) : w.cell? ⟨b, 1, none⟩ = some vt := by rw [cell_of_row _ _ _ _ _ _ h.blk]; rfl
theorem Sw.fz (h : Sw lo b vn vt s w) (j : Nat) : w.frozen? ⟨b, j, none⟩ = false := by simp [World.frozen?, h.blk]
end
set_option maxHeartbeats 1000000 in
theorem turnPlace_c {lo b : Nat} {vn vt : Value} {s : St} {w : World} (h : Sw lo b vn vt s w) (p : Bs) (ha : AscT s.turns) (hn : s.turns.length ≤ 1000000) :
  Calls Tryz.prog 165 #[.pointer (some ⟨b, 0, none⟩), .string (B p)] w fun e w' => e = .returned (.tuple #[.int .i64 (placeT s.turns p), .bool (findT s.turns p).isSome]) ∧ Fp Non w w' := by
 have hs := SearchT_c vt s.turns p w h.ownT.ns ha hn
 have c1 := h.c1
 obtain ⟨ao, cap, rfl⟩ := h.ownT.ns.shape
 generalize s.turns.length = n at *
 have HS := Lib.hid hs
 clear hs h hn ha
 go_enter Tryz.func165, Tryz.ntmps165
 go_wp2_with fail
 refine HS.out.mono ?_
 rintro e w1 ⟨rfl, hf⟩
 have HF := Lib.hid hf
 clear hf
 go_wp2
 go_ret2
 exact ⟨rfl, HF.out⟩
set_option maxHeartbeats 1000000 in
theorem turn_c {lo b : Nat} {vn vt : Value} {s : St} {w : World} (h : Sw lo b vn vt s w) (p : Bs) (ha : AscT s.turns) (hn : s.turns.length ≤ 1000000) :
  Calls Tryz.prog 127 #[.pointer (some ⟨b, 0, none⟩), .string (B p)] w fun e w' => e = .returned (.int .i64 (turnOf s.turns p)) ∧ Fp Non w w' := by
 have hs := turnPlace_c h p ha hn
 have c1 := h.c1
 have hfp := findT_place ha p
 obtain ⟨k, hk⟩ : ∃ k, k = placeT s.turns p := ⟨_, rfl⟩
 rw [← hk] at hs
 cases hf : findT s.turns p with
 | none =>
  have e : turnOf s.turns p = 0 := by unfold turnOf; rw [hf]; rfl
  rw [e]
  rw [hf] at hs
  simp only [Option.isSome_none] at hs
  have HS := Lib.hid hs
  obtain ⟨ao, cap, rfl⟩ := h.ownT.ns.shape
  clear hs h hn ha hfp hk hf e
  go_enter Tryz.func127, Tryz.ntmps127
  go_wp2_with fail
  refine HS.out.mono ?_
  rintro e w1 ⟨rfl, hf⟩
  have HF := Lib.hid hf
  clear hf
  go_wp2
  go_ret
  exact ⟨rfl, HF.out⟩
 | some t =>
  have e : turnOf s.turns p = t.next := by unfold turnOf; rw [hf]; rfl
  rw [e]
  rw [hf] at hs hfp
  simp only [Option.isSome_some] at hs
  have hkl : k < s.turns.length := by
   apply Decidable.byContradiction; intro c
   rw [dif_neg (by rw [← hk]; exact c)] at hfp; cases hfp
  have ht : s.turns[k] = t := by
   subst hk
   rw [dif_pos hkl] at hfp
   split at hfp
   ·exact (Option.some.inj hfp).symm
   ·cases hfp
  have HS := Lib.hid hs
  obtain ⟨g, o, cap, rfl, _, _, _, hcell⟩ := h.ownT.ns.at (by omega)
  have hnd := hcell k hkl
  rw [ht] at hnd
  obtain ⟨n, hnn⟩ : ∃ n, n = s.turns.length := ⟨_, rfl⟩
  rw [← hnn] at c1 hn
  have q3 : ((k : Int) < (n : Int)) = True := eq_true (by omega)
  have q4 : (k < n) = True := eq_true (by omega)
  have HC := Lib.hid (And.intro c1 hnd)
  clear hs h ha hfp hk hf e hcell hkl ht hnd hnn c1
  go_enter Tryz.func127, Tryz.ntmps127
  go_wp2_with fail
  refine HS.out.mono ?_
  rintro e w1 ⟨rfl, hf⟩
  have c1 := hf.cell HC.out.1 (fun h => h)
  have hnd := HC.out.2.keep hf (fun h => h)
  have d0 := hnd.c0; have d1 := hnd.c1
  have HF := Lib.hid hf
  clear hf hnd
  go_wp2
  go_ret
  exact ⟨rfl, HF.out⟩
end Go.Proofs.YtphoglepiegeiaaGreatDoor
namespace Go.Proofs.YtphoglepiegeiaaGreatDoor
set_option maxRecDepth 20000
set_option linter.unusedVariables false
set_option linter.unusedSimpArgs false
open Go.RowKit Pm
set_option maxHeartbeats 8000000 in
theorem May_1 (o : Opn) (w : World) (hp : (split o.path).isSome = true) (hl : o.path.length ≤ 1000000) (hk : o.kind = 1) :
  Calls Tryz.prog 37 #[opV o] w fun e w' => e = .returned (.bool (may o)) ∧ Fp Non w w' := by
 obtain ⟨k, p, d, v, ow, t⟩ := o
 obtain rfl : k = 1 := hk
 unfold opV strV
 have hr := fun w => Right_g p w (sz_of hl (by omega))
 obtain ⟨m, hm⟩ : ∃ m, may ⟨1, p, d, v, ow, t⟩ = m := ⟨_, rfl⟩
 rw [hm]
 rw [show (split p).isSome = true from hp] at hr
 obtain ⟨bv, h1⟩ : ∃ r, decide ((-1 : Int) ≤ v ∧ v ≤ 281474976710656) = r := ⟨_, rfl⟩
 obtain ⟨bo, h2⟩ : ∃ r, decide ((0 : Int) ≤ ow ∧ ow ≤ 1099511627776) = r := ⟨_, rfl⟩
 obtain ⟨br, h3⟩ : ∃ r, (p == [47]) = r := ⟨_, rfl⟩
 obtain ⟨bl, h4⟩ : ∃ r, decide (d.length ≤ 256) = r := ⟨_, rfl⟩
 obtain ⟨bz, h5⟩ : ∃ r, (ow == 0) = r := ⟨_, rfl⟩
 have HV := Lib.hid (fun w => within_d v (-1) 281474976710656 w bv h1)
 have HO := Lib.hid (fun w => within_d ow 0 1099511627776 w bo h2)
 have HM := Lib.hid hm
 have HR := Lib.hid hr
 have HFI := Lib.hid fields_c
 have HBX := Lib.hid (fun w => heap_alloc_new w (.cells #[.int .i64 1, .string (B p), .string (B d), .int .i64 v, .int .i64 ow, .bool t] TO_))
 have HQ := Lib.hid (And.intro hp (And.intro h1 (And.intro h2 (And.intro h3 (And.intro h4 h5)))))
 have q4 : (((d.length : Int) ≤ 256) = (bl = true)) := by rw [← h4]; simp; omega
 have q5 : ((d.length ≤ 256) = (bl = true)) := by rw [← h4]; simp
 clear hm hr h1 h2 hp hl h5 h4
 have hix := fields_at1
 go_enter Tryz.func37, Tryz.ntmps37
 go_wp2_with fail
 refine (HR.out _).mono ?_
 rintro e w1 ⟨rfl, g1⟩
 have hb1 := (Fp.of_below g1).heap (HBX.out w) (fun h => h)
 have HF1 := Lib.hid (((Fp.refl Non w).alloc _).then g1.fp)
 have HB1 := Lib.hid hb1
 clear g1 hb1
 go_wp2_with fail
 refine wp_region_held_drew (S := (fun w' => w'.cell? ⟨w.heap.size, 0, none⟩ = some ((.int .i64 1)) ∧ w'.cell? ⟨w.heap.size, 1, none⟩ = some (.string (B p)) ∧ w'.cell? ⟨w.heap.size, 2, none⟩ = some (.string (B d)) ∧ w'.cell? ⟨w.heap.size, 3, none⟩ = some (.int .i64 v) ∧ w'.cell? ⟨w.heap.size, 4, none⟩ = some (.int .i64 ow) ∧ w'.cell? ⟨w.heap.size, 5, none⟩ = some (.bool t))) (by kernel_rfl) ?_ (fun hHeld => ?_)
 ·exact box6 ((Fp.refl Non w1).drew.heap HB1.out (fun h => h))
 refine tk 1 (v := ?_) hHeld (fun w hSw => ?_) ?_; rotate_left
 ·(try dsimp only at hSw); obtain ⟨s0, s1, s2, s3, s4, s5⟩ := hSw; go_simp; try with_reducible rfl
 try simp only [zP, zN, zS, zT, zU]
 refine tk 2 (v := ?_) hHeld (fun w hSw => ?_) ?_; rotate_left
 ·(try dsimp only at hSw); obtain ⟨s0, s1, s2, s3, s4, s5⟩ := hSw; go_simp; try with_reducible rfl
 try simp only [zP, zN, zS, zT, zU]
 refine wpAnyH_ready (rs := [0]) (by kernel_rfl) (by simp) ?_
 refine AllReadyH.cons (o := ?ob108) ?hb108 (fun K hK => ?_) AllReadyH.nil
 case hb108 => simp only [zA, zB, zC] <;> exact rfl
 go_simp
 go_at_call 79
 refine (HFI.out _).mono ?_
 rintro e w2 ⟨rfl, f2⟩
 have hb2 := f2.heap (k := w.heap.size) ((Fp.refl Non w1).drew.heap HB1.out (fun h => h)) (fun h => h)
 have HB2 := Lib.hid hb2
 have HS2 := Lib.hid (box6 hb2)
 have HF2 := Lib.hid (HF1.out.then (((Fp.refl Non w1).drew).then f2))
 clear f2 hb2
 go_wp2_with fail
 refine hK.out _ _ HS2.out (fun hHeld => ?_)
 clear hK K
 try simp only [zP, zN, zS, zT, zU]
 refine tk 3 (v := ?_) hHeld (fun w hSw => ?_) ?_; rotate_left
 ·(try dsimp only at hSw); obtain ⟨s0, s1, s2, s3, s4, s5⟩ := hSw; go_simp; try with_reducible rfl
 try simp only [zP, zN, zS, zT, zU]
 refine tk 4 (v := ?_) hHeld (fun w hSw => ?_) ?_; rotate_left
 ·(try dsimp only at hSw); obtain ⟨s0, s1, s2, s3, s4, s5⟩ := hSw; go_simp; try with_reducible rfl
 try simp only [zP, zN, zS, zT, zU]
 refine wpAnyH_done (by kernel_rfl) ?_ _
 have s0 := HS2.out.1; have s1 := HS2.out.2.1; have s2 := HS2.out.2.2.1; have s3 := HS2.out.2.2.2.1; have s4 := HS2.out.2.2.2.2.1; have s5 := HS2.out.2.2.2.2.2
 have fz : ∀ j, w2.frozen? ⟨w.heap.size, j, none⟩ = false := fun j => by have := HB2.out; simp [World.frozen?, this]
 have z0 := fz 0; have z1 := fz 1; have z2 := fz 2; have z3 := fz 3; have z4 := fz 4; have z5 := fz 5
 clear fz
 have heq := eq_op
 clear hix
 cases br <;> cases bl <;> cases bo
 all_goals simp only [Bool.false_eq_true, eq_self] at q4 q5
 all_goals
  go_wp2_with (first
   | (go_at_call_of 80 v; refine (HV.out _).mono ?_; rintro e w1 ⟨rfl, rfl⟩)
   | (go_at_call_of 80 ow; refine (HO.out _).mono ?_; rintro e w1 ⟨rfl, rfl⟩))
  all_goals
   go_ret
   refine ⟨ret_bool ?_, ?_⟩
   ·rw [← HM.out]; unfold may; obtain ⟨g0, g1, g2, g3, g4, g5⟩ := HQ.out; clear HV HO HM HR HFI HBX HF1 HB1 HB2 HS2 HF2; by_cases hd : d = [] <;> by_cases hv0 : v = 0 <;> by_cases ho0 : ow = 0 <;> cases t <;> simp_all <;> omega
   ·first | exact HF2.out | (repeat (first | exact HF2.out | refine Fp.setCell ?_ (.inr (Nat.le_refl _)) _))
set_option maxHeartbeats 8000000 in
theorem May_2 (o : Opn) (w : World) (hp : (split o.path).isSome = true) (hl : o.path.length ≤ 1000000) (hk : o.kind = 2) :
  Calls Tryz.prog 37 #[opV o] w fun e w' => e = .returned (.bool (may o)) ∧ Fp Non w w' := by
 obtain ⟨k, p, d, v, ow, t⟩ := o
 obtain rfl : k = 2 := hk
 unfold opV strV
 have hr := fun w => Right_g p w (sz_of hl (by omega))
 obtain ⟨m, hm⟩ : ∃ m, may ⟨2, p, d, v, ow, t⟩ = m := ⟨_, rfl⟩
 rw [hm]
 rw [show (split p).isSome = true from hp] at hr
 obtain ⟨bv, h1⟩ : ∃ r, decide ((-1 : Int) ≤ v ∧ v ≤ 281474976710656) = r := ⟨_, rfl⟩
 obtain ⟨bo, h2⟩ : ∃ r, decide ((0 : Int) ≤ ow ∧ ow ≤ 1099511627776) = r := ⟨_, rfl⟩
 obtain ⟨br, h3⟩ : ∃ r, (p == [47]) = r := ⟨_, rfl⟩
 obtain ⟨bl, h4⟩ : ∃ r, decide (d.length ≤ 256) = r := ⟨_, rfl⟩
 obtain ⟨bz, h5⟩ : ∃ r, (ow == 0) = r := ⟨_, rfl⟩
 have HV := Lib.hid (fun w => within_d v (-1) 281474976710656 w bv h1)
 have HO := Lib.hid (fun w => within_d ow 0 1099511627776 w bo h2)
 have HM := Lib.hid hm
 have HR := Lib.hid hr
 have HFI := Lib.hid fields_c
 have HBX := Lib.hid (fun w => heap_alloc_new w (.cells #[.int .i64 2, .string (B p), .string (B d), .int .i64 v, .int .i64 ow, .bool t] TO_))
 have HQ := Lib.hid (And.intro hp (And.intro h1 (And.intro h2 (And.intro h3 (And.intro h4 h5)))))
 clear hm hr h1 h2 hp hl h5 h4
 have hix := fields_at2
 go_enter Tryz.func37, Tryz.ntmps37
 go_wp2_with fail
 refine (HR.out _).mono ?_
 rintro e w1 ⟨rfl, g1⟩
 have hb1 := (Fp.of_below g1).heap (HBX.out w) (fun h => h)
 have HF1 := Lib.hid (((Fp.refl Non w).alloc _).then g1.fp)
 have HB1 := Lib.hid hb1
 clear g1 hb1
 go_wp2_with fail
 refine wp_region_held_drew (S := (fun w' => w'.cell? ⟨w.heap.size, 0, none⟩ = some ((.int .i64 2)) ∧ w'.cell? ⟨w.heap.size, 1, none⟩ = some (.string (B p)) ∧ w'.cell? ⟨w.heap.size, 2, none⟩ = some (.string (B d)) ∧ w'.cell? ⟨w.heap.size, 3, none⟩ = some (.int .i64 v) ∧ w'.cell? ⟨w.heap.size, 4, none⟩ = some (.int .i64 ow) ∧ w'.cell? ⟨w.heap.size, 5, none⟩ = some (.bool t))) (by kernel_rfl) ?_ (fun hHeld => ?_)
 ·exact box6 ((Fp.refl Non w1).drew.heap HB1.out (fun h => h))
 refine tk 1 (v := ?_) hHeld (fun w hSw => ?_) ?_; rotate_left
 ·(try dsimp only at hSw); obtain ⟨s0, s1, s2, s3, s4, s5⟩ := hSw; go_simp; try with_reducible rfl
 try simp only [zP, zN, zS, zT, zU]
 refine tk 2 (v := ?_) hHeld (fun w hSw => ?_) ?_; rotate_left
 ·(try dsimp only at hSw); obtain ⟨s0, s1, s2, s3, s4, s5⟩ := hSw; go_simp; try with_reducible rfl
 try simp only [zP, zN, zS, zT, zU]
 refine wpAnyH_ready (rs := [0]) (by kernel_rfl) (by simp) ?_
 refine AllReadyH.cons (o := ?ob113) ?hb113 (fun K hK => ?_) AllReadyH.nil
 case hb113 => simp only [zA, zB, zC] <;> exact rfl
 go_simp
 go_at_call 79
 refine (HFI.out _).mono ?_
 rintro e w2 ⟨rfl, f2⟩
 have hb2 := f2.heap (k := w.heap.size) ((Fp.refl Non w1).drew.heap HB1.out (fun h => h)) (fun h => h)
 have HB2 := Lib.hid hb2
 have HS2 := Lib.hid (box6 hb2)
 have HF2 := Lib.hid (HF1.out.then (((Fp.refl Non w1).drew).then f2))
 clear f2 hb2
 go_wp2_with fail
 refine hK.out _ _ HS2.out (fun hHeld => ?_)
 clear hK K
 try simp only [zP, zN, zS, zT, zU]
 refine tk 3 (v := ?_) hHeld (fun w hSw => ?_) ?_; rotate_left
 ·(try dsimp only at hSw); obtain ⟨s0, s1, s2, s3, s4, s5⟩ := hSw; go_simp; try with_reducible rfl
 try simp only [zP, zN, zS, zT, zU]
 refine tk 4 (v := ?_) hHeld (fun w hSw => ?_) ?_; rotate_left
 ·(try dsimp only at hSw); obtain ⟨s0, s1, s2, s3, s4, s5⟩ := hSw; go_simp; try with_reducible rfl
 try simp only [zP, zN, zS, zT, zU]
 refine wpAnyH_done (by kernel_rfl) ?_ _
 have s0 := HS2.out.1; have s1 := HS2.out.2.1; have s2 := HS2.out.2.2.1; have s3 := HS2.out.2.2.2.1; have s4 := HS2.out.2.2.2.2.1; have s5 := HS2.out.2.2.2.2.2
 have fz : ∀ j, w2.frozen? ⟨w.heap.size, j, none⟩ = false := fun j => by have := HB2.out; simp [World.frozen?, this]
 have z0 := fz 0; have z1 := fz 1; have z2 := fz 2; have z3 := fz 3; have z4 := fz 4; have z5 := fz 5
 clear fz
 have heq := eq_op
 clear hix
 cases br <;> cases bv
 all_goals
  go_wp2_with (first
   | (go_at_call_of 80 v; refine (HV.out _).mono ?_; rintro e w1 ⟨rfl, rfl⟩)
   | (go_at_call_of 80 ow; refine (HO.out _).mono ?_; rintro e w1 ⟨rfl, rfl⟩))
  all_goals
   go_ret
   refine ⟨ret_bool ?_, ?_⟩
   ·rw [← HM.out]; unfold may; obtain ⟨g0, g1, g2, g3, g4, g5⟩ := HQ.out; clear HV HO HM HR HFI HBX HF1 HB1 HB2 HS2 HF2; by_cases hd : d = [] <;> by_cases hv0 : v = 0 <;> by_cases ho0 : ow = 0 <;> cases t <;> simp_all <;> omega
   ·first | exact HF2.out | (repeat (first | exact HF2.out | refine Fp.setCell ?_ (.inr (Nat.le_refl _)) _))
end Go.Proofs.YtphoglepiegeiaaGreatDoor
