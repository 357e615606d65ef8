/- Small functions of locks: numbers, closures over holds, a closure over texts -/
import Derived.Test.YtenaggleepoclaaGreatJd
import Derived.Test.YtenaggleepoclaaGreatJc
import Derived.Test.YtenaggleepoclaaGreatJg
namespace Go.Proofs.YtenaggleepoclaaGreat
set_option maxRecDepth 20000
set_option linter.unusedVariables false
set_option linter.unusedSimpArgs false
open Go.RowKit Pm

set_option maxHeartbeats 400000 in
theorem isNum_c (n : Int) (w : World) : Calls Tryz.prog 40 #[.int .i64 n] w fun e w' => e = .returned (.bool (isN n)) ∧ w' = w := by
  go_enter Tryz.func40, Tryz.ntmps40
  go_wp2
  all_goals (go_ret; refine ⟨ret_bool ?_, rfl⟩; unfold isN mxN; rw [Bool.eq_iff_iff]; simp; omega)
theorem okN_isN (n : Int) : okN n = isN n := by
  unfold okN isN mxN; rw [Bool.eq_iff_iff]; simp
theorem newer_yng {t a : Int} (x : Hl) (ht : isN t = true) (ha : isN a = true) (hxt : isN x.t = true) (hxa : isN x.a = true) : newer x.a x.t a t = yng t a x := by
  unfold newer yng
  rw [okN_isN, okN_isN, okN_isN, okN_isN, ht, ha, hxt, hxa, Bool.eq_iff_iff]
  simp

/-- A box that holds one cell, read later. -/
theorem box_cell {w : World} {b : Nat} {T : TypeId} {c0 : Value} (h : w.heap[b]? = some (.cells #[c0] T (0, 0))) : w.cell? ⟨b, 0, none⟩ = some c0 := by rw [cell_of_row _ _ _ _ _ _ h]; rfl

set_option maxHeartbeats 1000000 in
theorem free1_c (x : Hl) (g : Nat) (t : Int) (w : World) (hg : w.cell? ⟨g, 0, none⟩ = some (.int .i64 t)) :
    Calls Tryz.prog 43 #[hlV x, .pointer (some ⟨g, 0, none⟩)] w fun e w' => e = .returned (.bool (decide (x.t = t))) ∧ Fp Non w w' := by
  obtain ⟨d, t', a⟩ := x
  unfold hlV strV
  have hf : ∀ o, Fp Non w (w.alloc o) := fun o => (Fp.refl Non w).alloc o
  have hg2 : ∀ o, (w.alloc o).cell? ⟨g, 0, none⟩ = some (.int .i64 t) := fun o => (hf o).cell hg (fun h => h)
  have HF := Lib.hid hf
  clear hf hg
  go_enter Tryz.func43, Tryz.ntmps43
  go_wp2
  go_ret
  refine ⟨ret_bool ?_, HF.out _⟩
  rw [Bool.eq_iff_iff]; simp
theorem free_pd (w : World) (g : Nat) (t : Int) (hg : w.cell? ⟨g, 0, none⟩ = some (.int .i64 t)) (S : Nat → Prop) (hS : ¬ S g) :
    PdH S w (.func (.func 43) #[] #[.pointer (some ⟨g, 0, none⟩)]) (fun x => decide (x.t = t)) :=
  ⟨_, _, _, rfl, enters_of Tryz.func43 (by kernel_rfl) rfl, fun x w1 _ hf => free1_c x g t w1 (hf.cell hg hS)⟩

set_option maxHeartbeats 1000000 in
theorem held1_c (x : Hl) (g : Nat) (p : Bs) (w : World) (hg : w.cell? ⟨g, 0, none⟩ = some (.string (B p))) :
    Calls Tryz.prog 38 #[hlV x, .pointer (some ⟨g, 0, none⟩)] w fun e w' => e = .returned (.bool (decide (x.d = p))) ∧ Fp Non w w' := by
  obtain ⟨d, t', a⟩ := x
  unfold hlV strV
  have hf : ∀ o, Fp Non w (w.alloc o) := fun o => (Fp.refl Non w).alloc o
  have hg2 : ∀ o, (w.alloc o).cell? ⟨g, 0, none⟩ = some (.string (B p)) := fun o => (hf o).cell hg (fun h => h)
  have HF := Lib.hid hf
  clear hf hg
  go_enter Tryz.func38, Tryz.ntmps38
  go_wp2
  go_ret
  refine ⟨ret_bool ?_, HF.out _⟩
  rw [Bool.eq_iff_iff]; simp
theorem held_pd (w : World) (g : Nat) (p : Bs) (hg : w.cell? ⟨g, 0, none⟩ = some (.string (B p))) (S : Nat → Prop) (hS : ¬ S g) :
    PdH S w (.func (.func 38) #[] #[.pointer (some ⟨g, 0, none⟩)]) (fun x => decide (x.d = p)) :=
  ⟨_, _, _, rfl, enters_of Tryz.func38 (by kernel_rfl) rfl, fun x w1 _ hf => held1_c x g p w1 (hf.cell hg hS)⟩

set_option maxHeartbeats 1000000 in
theorem may2_c (x : Hl) (g h : Nat) (t a : Int) (w : World) (hg : w.cell? ⟨g, 0, none⟩ = some (.int .i64 t)) (hh : w.cell? ⟨h, 0, none⟩ = some (.int .i64 a)) :
    Calls Tryz.prog 48 #[hlV x, .pointer (some ⟨g, 0, none⟩), .pointer (some ⟨h, 0, none⟩)] w fun e w' => e = .returned (.bool (decide (x.t = t ∧ x.a ≠ a))) ∧ Fp Non w w' := by
  obtain ⟨d, t', a'⟩ := x
  unfold hlV strV
  have hf : ∀ o, Fp Non w (w.alloc o) := fun o => (Fp.refl Non w).alloc o
  have hg2 : ∀ o, (w.alloc o).cell? ⟨g, 0, none⟩ = some (.int .i64 t) := fun o => (hf o).cell hg (fun h => h)
  have hh2 : ∀ o, (w.alloc o).cell? ⟨h, 0, none⟩ = some (.int .i64 a) := fun o => (hf o).cell hh (fun h => h)
  have HF := Lib.hid hf
  clear hf hg hh
  go_enter Tryz.func48, Tryz.ntmps48
  go_wp2
  all_goals
    go_ret
    refine ⟨ret_bool ?_, HF.out _⟩
    rw [Bool.eq_iff_iff]
    simp [*]
theorem may_pd (w : World) (g h : Nat) (t a : Int) (hg : w.cell? ⟨g, 0, none⟩ = some (.int .i64 t)) (hh : w.cell? ⟨h, 0, none⟩ = some (.int .i64 a)) (S : Nat → Prop) (hS : ¬ S g) (hT : ¬ S h) :
    PdH S w (.func (.func 48) #[] #[.pointer (some ⟨g, 0, none⟩), .pointer (some ⟨h, 0, none⟩)]) (fun x => decide (x.t = t ∧ x.a ≠ a)) :=
  ⟨_, _, _, rfl, enters_of Tryz.func48 (by kernel_rfl) rfl, fun x w1 _ hf => may2_c x g h t a w1 (hf.cell hg hS) (hf.cell hh hT)⟩

set_option maxHeartbeats 1000000 in
theorem younger1_c (x : Hl) (g h : Nat) (t a : Int) (w : World) (hg : w.cell? ⟨g, 0, none⟩ = some (.int .i64 a)) (hh : w.cell? ⟨h, 0, none⟩ = some (.int .i64 t)) :
    Calls Tryz.prog 54 #[hlV x, .pointer (some ⟨g, 0, none⟩), .pointer (some ⟨h, 0, none⟩)] w fun e w' => e = .returned (.bool (newer x.a x.t a t)) ∧ Fp Non w w' := by
  obtain ⟨d, t', a'⟩ := x
  unfold hlV strV
  have hf : ∀ o, Fp Non w (w.alloc o) := fun o => (Fp.refl Non w).alloc o
  have hg2 : ∀ o, (w.alloc o).cell? ⟨g, 0, none⟩ = some (.int .i64 a) := fun o => (hf o).cell hg (fun h => h)
  have hh2 : ∀ o, (w.alloc o).cell? ⟨h, 0, none⟩ = some (.int .i64 t) := fun o => (hf o).cell hh (fun h => h)
  have HF := Lib.hid hf
  clear hf hg hh
  go_enter Tryz.func54, Tryz.ntmps54
  go_wp2_with fail
  refine (Newer_c _ _ _ _ _).mono ?_
  rintro e w1 ⟨rfl, rfl⟩
  go_wp2
  go_ret
  exact ⟨rfl, HF.out _⟩

/-- What youngerThan answers. -/
structure YngR (t a : Int) (w : World) (e : Ending) (w' : World) : Prop where
  ex : ∃ g h : Nat, e = .returned (.func (.func 54) #[] #[.pointer (some ⟨g, 0, none⟩), .pointer (some ⟨h, 0, none⟩)]) ∧ w'.cell? ⟨g, 0, none⟩ = some (.int .i64 a) ∧ w'.cell? ⟨h, 0, none⟩ = some (.int .i64 t)
  fp : Fp Non w w'
theorem YngR.pd {t a : Int} {w w' : World} {e : Ending} (h : YngR t a w e w') : ∃ k fi cap, e = .returned (.func (.func k) fi cap) ∧ PdH Non w' (.func (.func k) fi cap) (fun x => newer x.a x.t a t) := by
  obtain ⟨g, h', rfl, h1, h2⟩ := h.ex
  exact ⟨_, _, _, rfl, _, _, _, rfl, enters_of Tryz.func54 (by kernel_rfl) rfl, fun x w1 _ hf => younger1_c x g h' t a w1 (hf.cell h1 (fun h => h)) (hf.cell h2 (fun h => h))⟩
set_option maxHeartbeats 1000000 in
theorem youngerThan_c (t a : Int) (w : World) : Calls Tryz.prog 30 #[.int .i64 t, .int .i64 a] w (YngR t a w) := by
  go_enter Tryz.func30, Tryz.ntmps30
  go_wp2
  go_ret
  have f2 := fp_alloc (w.alloc (.cells #[.int .i64 t] 2)) (.cells #[.int .i64 a] 2)
  have r1 := heap_alloc_new w (.cells #[.int .i64 t] 2)
  have r2 := heap_alloc_new (w.alloc (.cells #[.int .i64 t] 2)) (.cells #[.int .i64 a] 2)
  have sz : (w.alloc (.cells #[.int .i64 t] 2)).heap.size = w.heap.size + 1 := by simp
  rw [sz] at r2
  refine ⟨⟨w.heap.size + 1, w.heap.size, rfl, ?_, ?_⟩, (fp_alloc w _).then f2⟩
  · rw [cell_of_row _ _ _ _ _ _ r2]; rfl
  · rw [cell_of_row _ _ _ _ _ _ (f2.heap r1 (fun h => h))]; rfl

/-- Holds of the call's own. -/
structure HlR (w : World) (l : List Hl) (v' : Value) (w' : World) : Prop where
  own : OwH w.heap.size w' v' l
  fp : Fp Non w w'

set_option maxHeartbeats 1000000 in
theorem Free_c (v : Value) (l : List Hl) (t : Int) (w : World) (hv : NsH w v l) (hs : HSp l) (hn : l.length ≤ 100000) :
    Calls Tryz.prog 19 #[v, .int .i64 t] w fun e w' => ∃ v', e = .returned v' ∧ HlR w (freeH l t) v' w' := by
  obtain ⟨ao, cap, rfl⟩ := hv.shape
  have f1 := fp_alloc w (.cells #[.int .i64 t] 2)
  have r1 := heap_alloc_new w (.cells #[.int .i64 t] 2)
  have hcl := Clone_ownH _ l (w.alloc (.cells #[.int .i64 t] 2)) (hv.non f1) hn
  obtain ⟨n, hnn⟩ : ∃ n, n = l.length := ⟨_, rfl⟩
  rw [← hnn] at hcl ⊢
  have HC := Lib.hid hcl
  have HX := Lib.hid (And.intro f1 (And.intro r1 (And.intro hs hn)))
  clear hcl hv hs hn f1 r1 hnn
  go_enter Tryz.func19, Tryz.ntmps19
  go_wp2_with fail
  refine HC.out.mono ?_
  rintro e w1 ⟨v1, rfl, hO⟩
  have hcell := box_cell (hO.fp.heap HX.out.2.1 (fun h => h))
  have hlow := hO.own.low
  have hpd := free_pd w1 w.heap.size t hcell (fun k => v1.ownBlock = some k) (fun h => by have := hlow _ h; simp at this; omega)
  have hdf := DeleteFH_own hO.own HX.out.2.2.1 hpd HX.out.2.2.2
  have HD := Lib.hid hdf
  have H1 := Lib.hid hO
  clear hdf hpd hlow hcell hO
  go_wp2_with fail
  refine HD.out.mono ?_
  rintro e w2 ⟨v2, rfl, hR⟩
  have hfp : Fp Non w w2 := (HX.out.1.then H1.out.fp).trans hR.fp (fun k hk => .inr (by have := H1.out.own.low k hk; simp at this; omega))
  have hown : OwH w.heap.size w2 v2 (freeH l t) := by
    have e : freeH l t = l.filter (fun x => !decide (x.t = t)) := by unfold freeH; congr 1; funext x; simp
    rw [e]
    rcases hR.own.ways with ⟨rfl, h0⟩ | ⟨G, cap, rfl, h1, h2⟩
    · rw [h0]; exact OwH.nil _ _
    · exact OwH.row h1 (by simp at h2; omega)
  have HR := Lib.hid (HlR.mk hown hfp)
  clear hR hfp hown
  go_wp2
  go_ret
  exact ⟨_, rfl, HR.out⟩

theorem idx_held {l : List Hl} {p : Bs} {z : Int} (h : IdxH (fun x => decide (x.d = p)) l z) : (z = -1 ∧ heldH l p = none) ∨ ∃ i, z = ((i : Nat) : Int) ∧ ∃ hi : i < l.length, heldH l p = some l[i] := by
  rcases h with ⟨h1, h2⟩ | ⟨i, h1, hi, h2, h3⟩
  · refine .inl ⟨h1, ?_⟩
    unfold heldH
    rw [List.find?_eq_none]
    intro x hx; simpa using h2 x hx
  · refine .inr ⟨i, h1, hi, ?_⟩
    unfold heldH
    rw [List.find?_eq_some_iff_getElem]
    exact ⟨h2, i, hi, rfl, fun j hj => by simpa using h3 j (by omega) hj⟩
set_option maxHeartbeats 1000000 in
theorem Held_c (v : Value) (l : List Hl) (p : Bs) (w : World) (hv : NsH w v l) (hs : HSp l) (hn : l.length ≤ 1000000) :
    Calls Tryz.prog 13 #[v, .string (B p)] w fun e w' => e = .returned (.tuple #[.int .i64 (((heldH l p).map Hl.t).getD 0), .bool (heldH l p).isSome]) ∧ Fp Non w w' := by
  obtain ⟨ao, cap, rfl⟩ := hv.shape
  have f1 := fp_alloc w (.cells #[.string (B p)] 9)
  have r1 := heap_alloc_new w (.cells #[.string (B p)] 9)
  have hpd := held_pd (w.alloc (.cells #[.string (B p)] 9)) w.heap.size p (box_cell r1) Non (fun h => h)
  have hix := IndexH_c _ _ l _ _ (hv.non f1) hs hpd hn
  obtain ⟨n, hnn⟩ : ∃ n, n = l.length := ⟨_, rfl⟩
  rw [← hnn] at hix ⊢
  have HI := Lib.hid hix
  have HX := Lib.hid (And.intro f1 (And.intro hnn hv))
  have hnb : n ≤ 1000000 := by omega
  clear hix hpd hv hs hn f1 r1 hnn
  go_enter Tryz.func13, Tryz.ntmps13
  go_wp2_with fail
  refine HI.out.mono ?_
  rintro e w1 ⟨⟨z, rfl, hz⟩, hf⟩
  have HF := Lib.hid (HX.out.1.then hf)
  clear hf
  rcases idx_held hz with ⟨rfl, hh⟩ | ⟨i, rfl, hil, hh⟩
  · have HH := Lib.hid hh
    clear hz hh
    go_wp2
    go_ret2
    exact ⟨by rw [HH.out]; rfl, HF.out⟩
  · obtain ⟨g, o, cap', e, _, _, _, hcell⟩ := HX.out.2.2.at (by omega)
    injection e with e1 e2 e3
    subst e1 e3
    have hnd := (hcell i hil).keep HF.out (fun h => h)
    have q1 : ((i : Int) < 0) = False := eq_false (by omega)
    have q2 : (i < n) = True := eq_true (by rw [HX.out.2.1]; exact hil)
    have q3 : ((i : Int) < (n : Int)) = True := eq_true (by have := HX.out.2.1; omega)
    obtain ⟨x, hx⟩ : ∃ x, x = l[i] := ⟨_, rfl⟩
    rw [← hx] at hh hnd
    have HH := Lib.hid hh
    have c1 := hnd.c1
    clear hz hh hnd hcell hx hil e2
    go_wp2
    go_ret2
    exact ⟨by rw [HH.out]; rfl, HF.out⟩
end Go.Proofs.YtenaggleepoclaaGreat
