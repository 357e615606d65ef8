/- A text of this proof. -/
import Derived.Laws.EntriesVeiled
import Derived.Test.YtphoglepiegeiaaGreatDoorZDD
import Derived.Test.YtphoglepiegeiaaGreatDoorZDF
import Derived.Test.YtphoglepiegeiaaGreatDoorZDH
import Derived.Test.YtphoglepiegeiaaGreatDoorZDW
import Derived.Test.YtphoglepiegeiaaGreatDoorZDX
import Derived.Test.YtphoglepiegeiaaGreatDoorZDZ
set_option linter.unusedSimpArgs false
set_option linter.unusedVariables false
namespace Go.Proofs.YtphoglepiegeiaaGreatDoor
set_option maxRecDepth 20000
open Go.RowKit Pm
def fillP (q : Bs) (x : Pt) : Pt := { x with path := if x.kind = 1 then upB q else q, dir := keptAt x.kind (if x.kind = 1 then upB q else q) }
def cur (q : Bs) (l : List Pt) (k : Nat) : List Pt := (l.take k).map (fillP q) ++ l.drop k
theorem cur_rows (q : Bs) (l : List Pt) (k : Nat) (hk : k < l.length) : rowsG ptC (cur q l k) = rowsG ptC ((l.take k).map (fillP q)) ++ (ptC l[k] ++ rowsG ptC (l.drop (k + 1))) := by
 unfold cur
 rw [rowsG_app, List.drop_eq_getElem_cons hk, rowsG_cons]
theorem cur_next (q : Bs) (l : List Pt) (k : Nat) (hk : k < l.length) : rowsG ptC ((l.take k).map (fillP q)) ++ (ptC (fillP q l[k]) ++ rowsG ptC (l.drop (k + 1))) = rowsG ptC (cur q l (k + 1)) := by
 unfold cur
 rw [List.take_succ_eq_append_getElem hk, List.map_append, rowsG_app, rowsG_app, List.append_assoc]
 simp [rowsG]
theorem cur_len (q : Bs) (l : List Pt) (k : Nat) (hk : k ≤ l.length) : (rowsG ptC ((l.take k).map (fillP q))).length = k * 7 := by
 rw [rowsG_len ptC_len, List.length_map, List.length_take, Nat.min_eq_left hk]
theorem upB_len {p : Bs} (h : p.length ≤ 100) : (upB p).length ≤ 100 := by
 unfold upB
 cases hp : parent p with
 | none => simp
 | some u => obtain ⟨_, _, _, h1, _⟩ := parent_some hp; exact h1
structure R7 (G k : Nat) (A C : List Value) (c0 c1 c2 c3 c4 c5 c6 : Value) (w : World) : Prop where
 row : w.heap[G]? = some (.cells (A ++ ([c0, c1, c2, c3, c4, c5, c6] ++ C)).toArray TP (0, 0))
 len : A.length = k * 7
section
variable {G k : Nat} {A C : List Value} {c0 c1 c2 c3 c4 c5 c6 : Value} {w w' : World}
theorem R7.non (h : R7 G k A C c0 c1 c2 c3 c4 c5 c6 w) (f : Fp Non w w') : R7 G k A C c0 c1 c2 c3 c4 c5 c6 w' := ⟨f.heap h.row id, h.len⟩
theorem R7.fz (h : R7 G k A C c0 c1 c2 c3 c4 c5 c6 w) (j : Nat) : w.frozen? ⟨G, k * 7 + j, none⟩ = false := frozen_at h.row _
theorem R7.get (h : R7 G k A C c0 c1 c2 c3 c4 c5 c6 w) (j : Nat) (v : Value) (hj : [c0, c1, c2, c3, c4, c5, c6][j]? = some v) : w.cell? ⟨G, k * 7 + j, none⟩ = some v := by
 rw [cell_of_row _ _ _ _ _ _ h.row, List.getElem?_toArray, List.getElem?_append_right (by rw [h.len]; omega), h.len, Nat.add_sub_cancel_left]
 rw [List.getElem?_append_left (List.getElem?_eq_some_iff.1 hj).1]; exact hj
theorem R7.at0 (h : R7 G k A C c0 c1 c2 c3 c4 c5 c6 w) : w.cell? ⟨G, k * 7, none⟩ = some c0 := h.get 0 c0 rfl
theorem R7.at1 (h : R7 G k A C c0 c1 c2 c3 c4 c5 c6 w) : w.cell? ⟨G, k * 7 + 1, none⟩ = some c1 := h.get 1 c1 rfl
theorem R7.at2 (h : R7 G k A C c0 c1 c2 c3 c4 c5 c6 w) : w.cell? ⟨G, k * 7 + 2, none⟩ = some c2 := h.get 2 c2 rfl
theorem R7.set1 (h : R7 G k A C c0 c1 c2 c3 c4 c5 c6 w) (v : Value) : R7 G k A C c0 v c2 c3 c4 c5 c6 (w.setCell ⟨G, k * 7 + 1, none⟩ v) := by
 refine ⟨?_, h.len⟩
 rw [heap_setCell_same w G (k * 7 + 1) _ TP v h.row, List.setIfInBounds_toArray, List.set_append_right _ _ (by rw [h.len]; omega), h.len, Nat.add_sub_cancel_left]; rfl
theorem R7.set2 (h : R7 G k A C c0 c1 c2 c3 c4 c5 c6 w) (v : Value) : R7 G k A C c0 c1 v c3 c4 c5 c6 (w.setCell ⟨G, k * 7 + 2, none⟩ v) := by
 refine ⟨?_, h.len⟩
 rw [heap_setCell_same w G (k * 7 + 2) _ TP v h.row, List.setIfInBounds_toArray, List.set_append_right _ _ (by rw [h.len]; omega), h.len, Nat.add_sub_cancel_left]; rfl
end
set_option maxHeartbeats 16000000 in
theorem Of1_c (l : List Pt) (G g : Nat) (q : Bs) (w : World) (hG : w.heap[G]? = some (.cells (rowsG ptC l).toArray TP (0, 0))) (hg : w.cell? ⟨g, 1, none⟩ = some (.string (B q))) (hgG : g ≠ G) (hq : q.length ≤ 100) (hl : l.length ≤ 10) :
  Calls Tryz.prog 76 #[.slice (some ⟨G, 0, none⟩) l.length l.length, .pointer (some ⟨g, 0, none⟩)] w fun e w' => e = .returned (.slice (some ⟨G, 0, none⟩) l.length l.length) ∧ w'.heap[G]? = some (.cells (rowsG ptC (l.map (fillP q))).toArray TP (0, 0)) ∧ Fp (fun j => j = G) w w' := by
 obtain ⟨n, hn⟩ : ∃ n, n = l.length := ⟨_, rfl⟩
 rw [← hn]
 have hn10 : n ≤ 10 := by omega
 have HX := Lib.hid (And.intro hn (And.intro hg (And.intro hgG hq)))
 have H0 : Hid (w.heap[G]? = some (.cells (rowsG ptC (cur q l 0)).toArray TP (0, 0)) ∧ Fp (fun j => j = G) w w) := ⟨by unfold cur; simpa using hG, Fp.refl _ _⟩
 clear hG hg hgG hq hl hn
 go_enter Tryz.func76, Tryz.ntmps76
 go_wp2_with fail
 go_loopw [8] (fun i wr => ∃ k : Nat, k ≤ n ∧ i = .int .i64 k ∧ Hid (wr.heap[G]? = some (.cells (rowsG ptC (cur q l k)).toArray TP (0, 0)) ∧ Fp (fun j => j = G) w wr)) (fun i _ => n - (RowKit.intOf i).toNat)
 case atStart => exact ⟨0, Nat.zero_le _, rfl, H0⟩
 clear H0
 obtain ⟨k, hk, rfl, hR0⟩ := hrel
 rename_i wr _
 by_cases hlt : k < n
 ·have hkl : k < l.length := by rw [← HX.out.1]; exact hlt
  have hrow := hR0.out.1
  rw [cur_rows q l k hkl] at hrow
  have hnx := cur_next q l k hkl
  have hlen := cur_len q l k (Nat.le_of_lt hkl)
  obtain ⟨x, hx⟩ : ∃ x, l[k] = x := ⟨_, rfl⟩
  rw [hx] at hrow hnx
  obtain ⟨kd, dd, p0, da, ve, ow, tt⟩ := x
  generalize rowsG ptC ((l.take k).map (fillP q)) = A at *
  generalize rowsG ptC (l.drop (k + 1)) = C at *
  have HR : Hid (R7 G k A C (.int .i64 kd) (.string (B dd)) (.string (B p0)) (.string (B da)) (.int .i64 ve) (.int .i64 ow) (.bool tt) wr ∧ Fp (fun j => j = G) w wr) := ⟨⟨hrow, hlen⟩, hR0.out.2⟩
  have c0 := HR.out.1.at0; have c1 := HR.out.1.at1; have c2 := HR.out.1.at2
  have z2 := HR.out.1.fz 2
  have g1 := HR.out.2.cell HX.out.2.1 HX.out.2.2.1
  have hq := HX.out.2.2.2
  have HL := Lib.hid hlt
  have q3 : ((k : Int) < (n : Int)) = True := eq_true (by omega)
  have q4 : (k < n) = True := eq_true hlt
  have ng : (g = G) = False := eq_false HX.out.2.2.1
  have ng2 : (G = g) = False := eq_false (fun e => HX.out.2.2.1 e.symm)
  clear hrow hlen hR0 hlt
  by_cases hk1 : kd = 1
  ·subst hk1
   have HNX : Hid (∀ wz, R7 G k A C (.int .i64 1) (.string (B (keptAt 1 (upB q)))) (.string (B (upB q))) (.string (B da)) (.int .i64 ve) (.int .i64 ow) (.bool tt) wz → wz.heap[G]? = some (.cells (rowsG ptC (cur q l (k + 1))).toArray TP (0, 0))) := fun wz h => by rw [← hnx]; exact h.row
   clear hnx
   have HUP := Lib.hid (fun w => upP_c q w (by omega))
   have HKE := Lib.hid (fun w => keptAt_c 1 (upB q) w (by have := upB_len hq; omega))
   clear hx hq hkl
   go_wp2_with fail
   have HR0 := Lib.hid (And.intro (HR.out.2.setCell (S := fun j => j = G) (p := ⟨G, k * 7 + 2, none⟩) (.inl rfl) (.string (B q))) (HR.out.1.set2 (.string (B q))))
   clear c0 c1 c2 z2
   generalize (wr.setCell ⟨G, k * 7 + 2, none⟩ _) = W0 at *
   refine (HUP.out _).mono ?_
   rintro e w3 ⟨rfl, hf3⟩
   have HR3 := Lib.hid (And.intro (HR0.out.1.trans hf3 (fun _ h => h.elim)) (HR0.out.2.non hf3))
   clear hf3
   have z3 := HR3.out.2.fz 2
   have c0 := HR3.out.2.at0; have c2 := HR3.out.2.at2
   go_wp2_with fail
   have HR1a := Lib.hid (And.intro (HR3.out.1.setCell (S := fun j => j = G) (p := ⟨G, k * 7 + 2, none⟩) (.inl rfl) (.string (B (upB q)))) (HR3.out.2.set2 (.string (B (upB q)))))
   clear c0 c2 z3
   generalize (w3.setCell ⟨G, k * 7 + 2, none⟩ _) = W1 at *
   have HR1 := Lib.hid (And.intro (HR1a.out.1.trans (Fp.refl Non W1).drew (fun _ h => h.elim)) (HR1a.out.2.non (Fp.refl Non W1).drew))
   have HS0 := Lib.hid (And.intro HR1.out.2.at0 HR1.out.2.at2)
   refine wp_region_held_drew (S := (fun w' => w'.cell? ⟨G, k * 7, none⟩ = some (.int .i64 1) ∧ w'.cell? ⟨G, k * 7 + 2, none⟩ = some (.string (B (upB q))))) (by kernel_rfl) ?_ (fun hH => ?_)
   ·exact HS0.out
   generalize W1.drew = wd at *
   refine tk 0 hH ?_
   refine tk 1 hH ?_
   refine tk 2 hH ?_
   refine tk 3 hH ?_
   refine tk 4 hH ?_
   refine tk 5 hH ?_
   refine tk 6 hH ?_
   refine tk 7 hH ?_
   refine tk 8 hH ?_
   refine rY 9 fun K hK => ?_
   go_simp
   go_at_call 68
   refine (HKE.out _).mono ?_
   rintro e w9 ⟨rfl, hf9⟩
   have HR9 := Lib.hid (And.intro (HR1.out.1.trans hf9 (fun _ h => h.elim)) (HR1.out.2.non hf9))
   have HS9 := Lib.hid (And.intro HR9.out.2.at0 HR9.out.2.at2)
   have z9 := HR9.out.2.fz 1
   have c19 := HR9.out.2.at1
   have hr10 := HR9.out.2.set1 (.string (B (keptAt 1 (upB q))))
   have HS10 := Lib.hid (And.intro hr10.at0 hr10.at2)
   have HR10 := Lib.hid (And.intro (HR9.out.1.setCell (S := fun j => j = G) (p := ⟨G, k * 7 + 1, none⟩) (.inl rfl) (.string (B (keptAt 1 (upB q))))) hr10)
   clear hf9 hr10
   go_wp2_with fail
   refine hK.out _ _ HS9.out (fun hH => ?_)
   clear hK K
   try simp only [zz]
   refine tk 10 hH ?_
   refine tk 11 hH ?_
   refine rY 12 fun K hK => ?_
   go_simp
   refine hK.out _ _ HS10.out (fun hH => ?_)
   clear hK K z9 c19
   try simp only [zz]
   refine dn ?_
   clear hH
   generalize (w9.setCell ⟨G, k * 7 + 1, none⟩ _) = wz at *
   have hM : Hid (wz.heap[G]? = some (.cells (rowsG ptC (cur q l (k + 1))).toArray TP (0, 0)) ∧ Fp (fun j => j = G) w wz) := ⟨HNX.out wz HR10.out.2, HR10.out.1⟩
   have hj1 := HL.out
   go_wp2
   go_roundw
   case rel => exact ⟨k + 1, by omega, by go_num, hM⟩
   case measure => simp [RowKit.intOf]; omega
  have q5 : (kd == 1) = false := beq_eq_false_iff_ne.2 hk1
  have q6 : (kd = 1) = False := eq_false hk1
  have HNX : Hid (∀ wz, R7 G k A C (.int .i64 kd) (.string (B (keptAt kd q))) (.string (B q)) (.string (B da)) (.int .i64 ve) (.int .i64 ow) (.bool tt) wz → wz.heap[G]? = some (.cells (rowsG ptC (cur q l (k + 1))).toArray TP (0, 0))) := fun wz h => by
   rw [← hnx]
   have e : fillP q ⟨kd, dd, p0, da, ve, ow, tt⟩ = ⟨kd, keptAt kd q, q, da, ve, ow, tt⟩ := by unfold fillP; simp only [hk1, if_false]
   rw [e]; exact h.row
  clear hnx hk1
  have HKE := Lib.hid (fun w => keptAt_c kd q w (by omega))
  clear hx hq hkl
  go_wp2_with fail
  have HR1a := Lib.hid (And.intro (HR.out.2.setCell (S := fun j => j = G) (p := ⟨G, k * 7 + 2, none⟩) (.inl rfl) (.string (B q))) (HR.out.1.set2 (.string (B q))))
  clear c0 c1 c2 z2
  generalize (wr.setCell ⟨G, k * 7 + 2, none⟩ _) = W1 at *
  have HR1 := Lib.hid (And.intro (HR1a.out.1.trans (Fp.refl Non W1).drew (fun _ h => h.elim)) (HR1a.out.2.non (Fp.refl Non W1).drew))
  have HS0 := Lib.hid (And.intro HR1.out.2.at0 HR1.out.2.at2)
  refine wp_region_held_drew (S := (fun w' => w'.cell? ⟨G, k * 7, none⟩ = some (.int .i64 kd) ∧ w'.cell? ⟨G, k * 7 + 2, none⟩ = some (.string (B q)))) (by kernel_rfl) ?_ (fun hH => ?_)
  ·exact HS0.out
  generalize W1.drew = wd at *
  refine tk 0 hH ?_
  refine tk 1 hH ?_
  refine tk 2 hH ?_
  refine tk 3 hH ?_
  refine tk 4 hH ?_
  refine tk 5 hH ?_
  refine tk 6 hH ?_
  refine tk 7 hH ?_
  refine tk 8 hH ?_
  refine rY 9 fun K hK => ?_
  go_simp
  go_at_call 68
  refine (HKE.out _).mono ?_
  rintro e w9 ⟨rfl, hf9⟩
  have HR9 := Lib.hid (And.intro (HR1.out.1.trans hf9 (fun _ h => h.elim)) (HR1.out.2.non hf9))
  have HS9 := Lib.hid (And.intro HR9.out.2.at0 HR9.out.2.at2)
  have z9 := HR9.out.2.fz 1
  have c19 := HR9.out.2.at1
  have hr10 := HR9.out.2.set1 (.string (B (keptAt kd q)))
  have HS10 := Lib.hid (And.intro hr10.at0 hr10.at2)
  have HR10 := Lib.hid (And.intro (HR9.out.1.setCell (S := fun j => j = G) (p := ⟨G, k * 7 + 1, none⟩) (.inl rfl) (.string (B (keptAt kd q)))) hr10)
  clear hf9 hr10
  go_wp2_with fail
  refine hK.out _ _ HS9.out (fun hH => ?_)
  clear hK K
  try simp only [zz]
  refine tk 10 hH ?_
  refine tk 11 hH ?_
  refine rY 12 fun K hK => ?_
  go_simp
  refine hK.out _ _ HS10.out (fun hH => ?_)
  clear hK K z9 c19
  try simp only [zz]
  refine dn ?_
  clear hH
  generalize (w9.setCell ⟨G, k * 7 + 1, none⟩ _) = wz at *
  have hM : Hid (wz.heap[G]? = some (.cells (rowsG ptC (cur q l (k + 1))).toArray TP (0, 0)) ∧ Fp (fun j => j = G) w wz) := ⟨HNX.out wz HR10.out.2, HR10.out.1⟩
  have hj1 := HL.out
  go_wp2
  go_roundw
  case rel => exact ⟨k + 1, by omega, by go_num, hM⟩
  case measure => simp [RowKit.intOf]; omega
 have hke : k = n := by omega
 subst hke
 have q3 : ((k : Int) < (k : Int)) = False := eq_false (by omega)
 have hfin := hR0.out.1
 unfold cur at hfin
 rw [HX.out.1, List.take_length, List.drop_length, List.append_nil] at hfin
 have HF := Lib.hid (And.intro hfin hR0.out.2)
 clear hlt hk hfin hR0
 go_wp2
 go_ret
 exact ⟨rfl, HF.out.1, HF.out.2⟩
end Go.Proofs.YtphoglepiegeiaaGreatDoor
namespace Go.Proofs.YtphoglepiegeiaaGreatDoor
set_option maxRecDepth 20000
open Go.RowKit Pm
theorem Sg.of_row {α : Type} {enc : α → List Value} {k : Nat} (hk : ∀ x, (enc x).length = k) {w : World} {G : Nat} {T : TypeId} {l : List α} (c : Nat) (h : w.heap[G]? = some (.cells (rowsG enc l).toArray T (0, 0))) : Sg enc k w (.slice (some ⟨G, 0, none⟩) l.length c) l := by
 refine ⟨_, c, rfl, .inr ⟨G, 0, rfl, fun i hi => ⟨fun j v hv => ?_⟩⟩⟩
 have hj : j < k := by rw [← hk l[i]]; exact (List.getElem?_eq_some_iff.1 hv).1
 rw [cell_of_row w G _ _ T (0, 0) h, Nat.zero_add, List.getElem?_toArray, rowsG_get hk l i j hi hj]
 exact hv
theorem of_step {q : Bs} (l : List Pt) (g : Nat) (w : World) (hg : w.cell? ⟨g, 1, none⟩ = some (.string (B q))) (hgl : g < w.heap.size) (hq : q.length ≤ 100) (hl : l.length ≤ 10) :
  Calls Tryz.prog 76 #[.slice (some ⟨w.heap.size, 0, none⟩) l.length l.length, .pointer (some ⟨g, 0, none⟩)] (w.alloc (.cells (rowsG ptC l).toArray TP)) fun e w' => e = .returned (.slice (some ⟨w.heap.size, 0, none⟩) l.length l.length) ∧ Sg ptC 7 w' (.slice (some ⟨w.heap.size, 0, none⟩) l.length l.length) (l.map (fillP q)) ∧ Fp Non w w' := by
 have hf := fp_alloc w (.cells (rowsG ptC l).toArray TP)
 refine (Of1_c l w.heap.size g q _ (heap_alloc_new w _) (hf.cell hg id) (by omega) hq hl).mono ?_
 rintro e w' ⟨rfl, h1, h2⟩
 refine ⟨rfl, ?_, hf.trans h2 (fun k hk => .inr (by omega))⟩
 have := Sg.of_row ptC_len l.length h1
 rwa [List.length_map] at this
set_option maxHeartbeats 16000000 in
theorem Of_f (o : Opn) (w : World) (hl : o.path.length ≤ 1000000) :
  Calls Tryz.prog 30 #[opV o] w fun e w' => (∃ v', e = .returned v' ∧ Sg ptC 7 w' v' (partsOf o) ∧ ∀ j, v'.ownBlock = some j → w.heap.size ≤ j) ∧ Fp Non w w' := by
 have hmc := fun w => May_c o w hl
 obtain ⟨kk, p, d, v, ow, t⟩ := o
 obtain ⟨bm, hm⟩ : ∃ b, may ⟨kk, p, d, v, ow, t⟩ = b := ⟨_, rfl⟩
 rw [hm] at hmc
 have hf0 := fp_alloc w (.cells #[.int .i64 kk, .string (B p), .string (B d), .int .i64 v, .int .i64 ow, .bool t] TO_)
 have hb0 := heap_alloc_new w (.cells #[.int .i64 kk, .string (B p), .string (B d), .int .i64 v, .int .i64 ow, .bool t] TO_)
 have HF0 := Lib.hid (And.intro hf0 hb0)
 unfold opV strV at hmc ⊢
 simp only at hmc ⊢
 have HM := Lib.hid hmc
 clear hmc hf0 hb0
 cases bm with
 | false =>
  have e : partsOf ⟨kk, p, d, v, ow, t⟩ = [] := by unfold partsOf; rw [hm]; rfl
  rw [e]
  clear e hm hl
  go_enter Tryz.func30, Tryz.ntmps30
  go_wp2_with fail
  refine (HM.out _).mono ?_
  rintro e w1 ⟨rfl, hf⟩
  have F := Lib.hid (HF0.out.1.then hf)
  clear hf
  go_wp2
  go_ret
  exact ⟨⟨_, rfl, Sg.nil _, fun j hj => by simp [Value.ownBlock] at hj⟩, F.out⟩
 | true => ?_
 have hk := may_kind hm
 have hp : p.length ≤ 100 := split_len (may_split hm)
 clear hl
 simp only at hk
 rcases hk with rfl | rfl | rfl | rfl | rfl | rfl | rfl
 ·obtain ⟨ps, hps⟩ : ∃ ps, ps = partsOf ⟨1, p, d, v, ow, t⟩ := ⟨_, rfl⟩
  have hpe : ([⟨1, [], [], [], 0, 0, false⟩, ⟨2, [], [], d, 0, ow, t⟩] : List Pt).map (fillP p) = ps := by rw [hps]; unfold partsOf; rw [if_pos hm]; simp [fillP, keptAt]
  rw [← hps]
  have HPE := Lib.hid (And.intro hpe hp)
  clear hpe hps hp hm
  go_enter Tryz.func30, Tryz.ntmps30
  go_wp2_with fail
  refine (HM.out _).mono ?_
  rintro e w1 ⟨rfl, hf⟩
  have K1 := Lib.hid (And.intro (HF0.out.1.then hf) (hf.heap HF0.out.2 id))
  clear hf
  obtain ⟨o0, o1, o2, o3, o4, o5⟩ := box6 K1.out.2
  have HC := Lib.hid (of_step (q := p) ([⟨1, [], [], [], 0, 0, false⟩, ⟨2, [], [], d, 0, ow, t⟩] : List Pt) w.heap.size w1 o1 (Array.getElem?_eq_some_iff.1 K1.out.2).1 HPE.out.2 (by simp))
  go_wp2_with fail
  refine HC.out.mono ?_
  rintro e w2 ⟨rfl, hsg, hf⟩
  have HE := Lib.hid (And.intro (show Sg ptC 7 w2 (.slice (some ⟨w1.heap.size, 0, none⟩) 2 2) ps by rw [← HPE.out.1]; exact hsg) (K1.out.1.then hf))
  clear hsg hf
  go_wp2
  go_ret
  exact ⟨⟨_, rfl, HE.out.1, fun j hj => by have h1 := K1.out.1.size; simp [Value.ownBlock] at hj; omega⟩, HE.out.2⟩
 ·obtain ⟨ps, hps⟩ : ∃ ps, ps = partsOf ⟨2, p, d, v, ow, t⟩ := ⟨_, rfl⟩
  have hpe : ([⟨3, [], [], [], v, 0, false⟩, ⟨4, [], [], [], 0, 0, false⟩] : List Pt).map (fillP p) = ps := by rw [hps]; unfold partsOf; rw [if_pos hm]; simp [fillP, keptAt]
  rw [← hps]
  have HPE := Lib.hid (And.intro hpe hp)
  clear hpe hps hp hm
  go_enter Tryz.func30, Tryz.ntmps30
  go_wp2_with fail
  refine (HM.out _).mono ?_
  rintro e w1 ⟨rfl, hf⟩
  have K1 := Lib.hid (And.intro (HF0.out.1.then hf) (hf.heap HF0.out.2 id))
  clear hf
  obtain ⟨o0, o1, o2, o3, o4, o5⟩ := box6 K1.out.2
  have HC := Lib.hid (of_step (q := p) ([⟨3, [], [], [], v, 0, false⟩, ⟨4, [], [], [], 0, 0, false⟩] : List Pt) w.heap.size w1 o1 (Array.getElem?_eq_some_iff.1 K1.out.2).1 HPE.out.2 (by simp))
  go_wp2_with fail
  refine HC.out.mono ?_
  rintro e w2 ⟨rfl, hsg, hf⟩
  have HE := Lib.hid (And.intro (show Sg ptC 7 w2 (.slice (some ⟨w1.heap.size, 0, none⟩) 2 2) ps by rw [← HPE.out.1]; exact hsg) (K1.out.1.then hf))
  clear hsg hf
  go_wp2
  go_ret
  exact ⟨⟨_, rfl, HE.out.1, fun j hj => by have h1 := K1.out.1.size; simp [Value.ownBlock] at hj; omega⟩, HE.out.2⟩
 ·obtain ⟨ps, hps⟩ : ∃ ps, ps = partsOf ⟨3, p, d, v, ow, t⟩ := ⟨_, rfl⟩
  have hpe : ([⟨5, [], [], d, v, 0, false⟩] : List Pt).map (fillP p) = ps := by rw [hps]; unfold partsOf; rw [if_pos hm]; simp [fillP, keptAt]
  rw [← hps]
  have HPE := Lib.hid (And.intro hpe hp)
  clear hpe hps hp hm
  go_enter Tryz.func30, Tryz.ntmps30
  go_wp2_with fail
  refine (HM.out _).mono ?_
  rintro e w1 ⟨rfl, hf⟩
  have K1 := Lib.hid (And.intro (HF0.out.1.then hf) (hf.heap HF0.out.2 id))
  clear hf
  obtain ⟨o0, o1, o2, o3, o4, o5⟩ := box6 K1.out.2
  have HC := Lib.hid (of_step (q := p) ([⟨5, [], [], d, v, 0, false⟩] : List Pt) w.heap.size w1 o1 (Array.getElem?_eq_some_iff.1 K1.out.2).1 HPE.out.2 (by simp))
  go_wp2_with fail
  refine HC.out.mono ?_
  rintro e w2 ⟨rfl, hsg, hf⟩
  have HE := Lib.hid (And.intro (show Sg ptC 7 w2 (.slice (some ⟨w1.heap.size, 0, none⟩) 1 1) ps by rw [← HPE.out.1]; exact hsg) (K1.out.1.then hf))
  clear hsg hf
  go_wp2
  go_ret
  exact ⟨⟨_, rfl, HE.out.1, fun j hj => by have h1 := K1.out.1.size; simp [Value.ownBlock] at hj; omega⟩, HE.out.2⟩
 ·obtain ⟨ps, hps⟩ : ∃ ps, ps = partsOf ⟨4, p, d, v, ow, t⟩ := ⟨_, rfl⟩
  have hpe : ([⟨6, [], [], [], v, 0, false⟩] : List Pt).map (fillP p) = ps := by rw [hps]; unfold partsOf; rw [if_pos hm]; simp [fillP, keptAt]
  rw [← hps]
  have HPE := Lib.hid (And.intro hpe hp)
  clear hpe hps hp hm
  go_enter Tryz.func30, Tryz.ntmps30
  go_wp2_with fail
  refine (HM.out _).mono ?_
  rintro e w1 ⟨rfl, hf⟩
  have K1 := Lib.hid (And.intro (HF0.out.1.then hf) (hf.heap HF0.out.2 id))
  clear hf
  obtain ⟨o0, o1, o2, o3, o4, o5⟩ := box6 K1.out.2
  have HC := Lib.hid (of_step (q := p) ([⟨6, [], [], [], v, 0, false⟩] : List Pt) w.heap.size w1 o1 (Array.getElem?_eq_some_iff.1 K1.out.2).1 HPE.out.2 (by simp))
  go_wp2_with fail
  refine HC.out.mono ?_
  rintro e w2 ⟨rfl, hsg, hf⟩
  have HE := Lib.hid (And.intro (show Sg ptC 7 w2 (.slice (some ⟨w1.heap.size, 0, none⟩) 1 1) ps by rw [← HPE.out.1]; exact hsg) (K1.out.1.then hf))
  clear hsg hf
  go_wp2
  go_ret
  exact ⟨⟨_, rfl, HE.out.1, fun j hj => by have h1 := K1.out.1.size; simp [Value.ownBlock] at hj; omega⟩, HE.out.2⟩
 ·obtain ⟨ps, hps⟩ : ∃ ps, ps = partsOf ⟨5, p, d, v, ow, t⟩ := ⟨_, rfl⟩
  have hpe : ([⟨7, [], [], [], 0, 0, false⟩] : List Pt).map (fillP p) = ps := by rw [hps]; unfold partsOf; rw [if_pos hm]; simp [fillP, keptAt]
  rw [← hps]
  have HPE := Lib.hid (And.intro hpe hp)
  clear hpe hps hp hm
  go_enter Tryz.func30, Tryz.ntmps30
  go_wp2_with fail
  refine (HM.out _).mono ?_
  rintro e w1 ⟨rfl, hf⟩
  have K1 := Lib.hid (And.intro (HF0.out.1.then hf) (hf.heap HF0.out.2 id))
  clear hf
  obtain ⟨o0, o1, o2, o3, o4, o5⟩ := box6 K1.out.2
  have HC := Lib.hid (of_step (q := p) ([⟨7, [], [], [], 0, 0, false⟩] : List Pt) w.heap.size w1 o1 (Array.getElem?_eq_some_iff.1 K1.out.2).1 HPE.out.2 (by simp))
  go_wp2_with fail
  refine HC.out.mono ?_
  rintro e w2 ⟨rfl, hsg, hf⟩
  have HE := Lib.hid (And.intro (show Sg ptC 7 w2 (.slice (some ⟨w1.heap.size, 0, none⟩) 1 1) ps by rw [← HPE.out.1]; exact hsg) (K1.out.1.then hf))
  clear hsg hf
  go_wp2
  go_ret
  exact ⟨⟨_, rfl, HE.out.1, fun j hj => by have h1 := K1.out.1.size; simp [Value.ownBlock] at hj; omega⟩, HE.out.2⟩
 ·obtain ⟨ps, hps⟩ : ∃ ps, ps = partsOf ⟨6, p, d, v, ow, t⟩ := ⟨_, rfl⟩
  have hpe : ([⟨8, [], [], [], 0, 0, false⟩, ⟨9, [], [], [], 0, 0, false⟩] : List Pt).map (fillP p) = ps := by rw [hps]; unfold partsOf; rw [if_pos hm]; simp [fillP, keptAt]
  rw [← hps]
  have HPE := Lib.hid (And.intro hpe hp)
  clear hpe hps hp hm
  go_enter Tryz.func30, Tryz.ntmps30
  go_wp2_with fail
  refine (HM.out _).mono ?_
  rintro e w1 ⟨rfl, hf⟩
  have K1 := Lib.hid (And.intro (HF0.out.1.then hf) (hf.heap HF0.out.2 id))
  clear hf
  obtain ⟨o0, o1, o2, o3, o4, o5⟩ := box6 K1.out.2
  have HC := Lib.hid (of_step (q := p) ([⟨8, [], [], [], 0, 0, false⟩, ⟨9, [], [], [], 0, 0, false⟩] : List Pt) w.heap.size w1 o1 (Array.getElem?_eq_some_iff.1 K1.out.2).1 HPE.out.2 (by simp))
  go_wp2_with fail
  refine HC.out.mono ?_
  rintro e w2 ⟨rfl, hsg, hf⟩
  have HE := Lib.hid (And.intro (show Sg ptC 7 w2 (.slice (some ⟨w1.heap.size, 0, none⟩) 2 2) ps by rw [← HPE.out.1]; exact hsg) (K1.out.1.then hf))
  clear hsg hf
  go_wp2
  go_ret
  exact ⟨⟨_, rfl, HE.out.1, fun j hj => by have h1 := K1.out.1.size; simp [Value.ownBlock] at hj; omega⟩, HE.out.2⟩
 obtain ⟨ps, hps⟩ : ∃ ps, ps = partsOf ⟨7, p, d, v, ow, t⟩ := ⟨_, rfl⟩
 have hpe : ([⟨8, [], [], [], 0, 0, false⟩, ⟨10, [], [], [], 0, ow, false⟩] : List Pt).map (fillP p) = ps := by rw [hps]; unfold partsOf; rw [if_pos hm]; simp [fillP, keptAt]
 rw [← hps]
 have HPE := Lib.hid (And.intro hpe hp)
 clear hpe hps hp hm
 go_enter Tryz.func30, Tryz.ntmps30
 go_wp2_with fail
 refine (HM.out _).mono ?_
 rintro e w1 ⟨rfl, hf⟩
 have K1 := Lib.hid (And.intro (HF0.out.1.then hf) (hf.heap HF0.out.2 id))
 clear hf
 obtain ⟨o0, o1, o2, o3, o4, o5⟩ := box6 K1.out.2
 have HC := Lib.hid (of_step (q := p) ([⟨8, [], [], [], 0, 0, false⟩, ⟨10, [], [], [], 0, ow, false⟩] : List Pt) w.heap.size w1 o1 (Array.getElem?_eq_some_iff.1 K1.out.2).1 HPE.out.2 (by simp))
 go_wp2_with fail
 refine HC.out.mono ?_
 rintro e w2 ⟨rfl, hsg, hf⟩
 have HE := Lib.hid (And.intro (show Sg ptC 7 w2 (.slice (some ⟨w1.heap.size, 0, none⟩) 2 2) ps by rw [← HPE.out.1]; exact hsg) (K1.out.1.then hf))
 clear hsg hf
 go_wp2
 go_ret
 exact ⟨⟨_, rfl, HE.out.1, fun j hj => by have h1 := K1.out.1.size; simp [Value.ownBlock] at hj; omega⟩, HE.out.2⟩
theorem Of_c (o : Opn) (w : World) (hl : o.path.length ≤ 1000000) :
  Calls Tryz.prog 30 #[opV o] w fun e w' => (∃ v', e = .returned v' ∧ Sg ptC 7 w' v' (partsOf o)) ∧ Fp Non w w' := (Of_f o w hl).mono fun _ _ ⟨⟨v', h1, h2, _⟩, h3⟩ => ⟨⟨v', h1, h2⟩, h3⟩
theorem Pts.made (w : World) (l : List Pt) : Sg ptC 7 (w.alloc (.cells (rowsG ptC l).toArray TP)) (.slice (some ⟨w.heap.size, 0, none⟩) l.length l.length) l := by
 have hb := heap_alloc_new w (.cells (rowsG ptC l).toArray TP)
 refine ⟨_, _, rfl, .inr ⟨_, _, rfl, fun i hi => ⟨fun j u hu => ?_⟩⟩⟩
 have hj : j < 7 := by rw [← ptC_len l[i]]; exact (List.getElem?_eq_some_iff.1 hu).1
 rw [cell_of_row _ _ _ _ _ _ hb, Nat.zero_add]
 have := rowsG_get (enc := ptC) ptC_len l i j hi hj
 simpa [this] using hu
structure PtR (w : World) (l : List Pt) (e : Ending) (w' : World) : Prop where
 ex : ∃ v', e = .returned v' ∧ Sg ptC 7 w' v' l ∧ ∀ j, v'.ownBlock = some j → w.heap.size ≤ j
 fp : Fp Non w w'
theorem PtR.of {w u : World} (f : Fp Non w u) (l : List Pt) : PtR w l (.returned (.slice (some ⟨u.heap.size, 0, none⟩) l.length l.length)) (u.alloc (.cells (rowsG ptC l).toArray TP)) :=
 ⟨⟨_, rfl, Pts.made u l, fun j hj => by have : u.heap.size = j := (by simpa [Value.ownBlock] using hj); have := f.size; omega⟩, f.then (fp_alloc _ _)⟩
theorem PtR.of2 {w u : World} (f : Fp Non w u) (x y : Obj) (l : List Pt) : PtR w l (.returned (.slice (some ⟨u.heap.size + 1 + 1, 0, none⟩) l.length l.length)) (((u.alloc x).alloc y).alloc (.cells (rowsG ptC l).toArray TP)) := by
 have h := PtR.of ((f.alloc x).alloc y) l
 rw [show ((u.alloc x).alloc y).heap.size = u.heap.size + 1 + 1 from by simp] at h
 exact h
attribute [local irreducible] wpStill
set_option maxHeartbeats 16000000 in
theorem rOf_c (o : Opn) (w : World) (hl : o.path.length ≤ 1000000) :
  Calls Tryz.prog 31 #[opV o] w (PtR w (partsOf o)) := by
 have hmc := fun w => rMay_c o w hl
 obtain ⟨kk, p, d, v, ow, t⟩ := o
 obtain ⟨bm, hm⟩ : ∃ b, may ⟨kk, p, d, v, ow, t⟩ = b := ⟨_, rfl⟩
 rw [hm] at hmc
 have hf0 := fp_alloc w (.cells #[.int .i64 kk, .string (B p), .string (B d), .int .i64 v, .int .i64 ow, .bool t] TO_)
 have hb0 := heap_alloc_new w (.cells #[.int .i64 kk, .string (B p), .string (B d), .int .i64 v, .int .i64 ow, .bool t] TO_)
 have K0 := Lib.hid (Kp.and (Kp.row hb0) (Kp.fp hf0))
 unfold opV strV at hmc ⊢
 simp only at hmc ⊢
 have HM := Lib.hid hmc
 clear hmc hf0 hb0
 cases bm with
 | false =>
  have e : partsOf ⟨kk, p, d, v, ow, t⟩ = [] := by unfold partsOf; rw [hm]; rfl
  rw [e]
  clear e hm hl
  go_enter Tryz.func31, Tryz.ntmps31
  go_upto_region 1 with (fail)
  generalize (World.alloc w _) = w0 at *
  obtain ⟨o0, o1, o2, o3, o4, o5⟩ := box6 K0.out.now.1
  go_wp2_with fail
  refine (HM.out _).mono ?_
  rintro e w1 ⟨rfl, hf⟩
  have F := Lib.hid (K0.out.now.2.then hf)
  clear hf o0 o1 o2 o3 o4 o5
  go_wp2
  go_ret
  exact ⟨⟨_, rfl, Sg.nil _, fun j hj => by simp [Value.ownBlock] at hj⟩, F.out⟩
 | true => ?_
 have hk := may_kind hm
 have hp : p.length ≤ 100 := split_len (may_split hm)
 clear hl
 simp only at hk
 obtain ⟨q, hqe⟩ : ∃ q, upB p = q := ⟨_, rfl⟩
 have hqq : q.length ≤ 100 := by
  rw [← hqe]; unfold upB
  cases h : parent p with
  | none => simp
  | some u => ?_
  obtain ⟨_, _, _, hul, _⟩ := parent_some h
  simp only [Option.getD_some]; omega
 have hup := fun W => rUp_c p W (by omega)
 rw [hqe] at hup
 have HUP := Lib.hid hup
 have HUQ := Lib.hid (fun W => rUp_c q W (by omega))
 clear hup hqq hp
 rcases hk with rfl | rfl | rfl | rfl | rfl | rfl | rfl
 ·have e : partsOf ⟨1, p, d, v, ow, t⟩ = [⟨1, upB q, q, [], 0, 0, false⟩, ⟨2, q, p, d, 0, ow, t⟩] := by unfold partsOf; rw [if_pos hm]; simp only [hqe]; rfl
  rw [e]
  clear e hm hqe
  go_enter Tryz.func31, Tryz.ntmps31
  go_upto_region 1 with (fail)
  generalize (World.alloc w _) = w0 at *
  obtain ⟨o0, o1, o2, o3, o4, o5⟩ := box6 K0.out.now.1
  go_wp2_with fail
  refine (HM.out _).mono ?_
  rintro e w1 ⟨rfl, hf⟩
  have K1 := Lib.hid (K0.out.later hf)
  clear hf o0 o1 o2 o3 o4 o5 K0
  obtain ⟨o0, o1, o2, o3, o4, o5⟩ := box6 K1.out.now.1
  go_wp2_with fail
  refine (HUP.out _).mono ?_
  rintro e w2 ⟨rfl, hf⟩
  have K2 := Lib.hid (K1.out.later hf)
  clear hf o0 o1 o2 o3 o4 o5 K1
  obtain ⟨o0, o1, o2, o3, o4, o5⟩ := box6 K2.out.now.1
  have g0 := fun x => (box6 (K2.out.later ((Fp.refl Non w2).alloc x)).now.1).1
  have h0 := fun x y => (box6 (K2.out.later (((Fp.refl Non w2).alloc x).alloc y)).now.1).1
  have g1 := fun x => (box6 (K2.out.later ((Fp.refl Non w2).alloc x)).now.1).2.1
  have h1 := fun x y => (box6 (K2.out.later (((Fp.refl Non w2).alloc x).alloc y)).now.1).2.1
  have g2 := fun x => (box6 (K2.out.later ((Fp.refl Non w2).alloc x)).now.1).2.2.1
  have h2 := fun x y => (box6 (K2.out.later (((Fp.refl Non w2).alloc x).alloc y)).now.1).2.2.1
  have g3 := fun x => (box6 (K2.out.later ((Fp.refl Non w2).alloc x)).now.1).2.2.2.1
  have h3 := fun x y => (box6 (K2.out.later (((Fp.refl Non w2).alloc x).alloc y)).now.1).2.2.2.1
  have g4 := fun x => (box6 (K2.out.later ((Fp.refl Non w2).alloc x)).now.1).2.2.2.2.1
  have h4 := fun x y => (box6 (K2.out.later (((Fp.refl Non w2).alloc x).alloc y)).now.1).2.2.2.2.1
  have g5 := fun x => (box6 (K2.out.later ((Fp.refl Non w2).alloc x)).now.1).2.2.2.2.2
  have h5 := fun x y => (box6 (K2.out.later (((Fp.refl Non w2).alloc x).alloc y)).now.1).2.2.2.2.2
  go_upto_region 8 with (fail)
  clear o0 o1 o2 o3 o4 o5 g0 g1 g2 g3 g4 g5 h0 h1 h2 h3 h4 h5
  have K3 := Lib.hid ((K2.out.later ((Fp.refl Non w2).alloc (.cells #[.int .i64 0, .string (B q), .string (B p), .string ⟨#[]⟩, .int .i64 0, .int .i64 0, .bool false] TP))).later ((Fp.refl Non _).alloc (.cells #[.int .i64 0, .string (B p), .string (B p), .string ⟨#[]⟩, .int .i64 0, .int .i64 0, .bool false] TP)))
  clear K2
  generalize (World.alloc (World.alloc w2 _) _) = w3 at *
  have KD := Lib.hid (K3.out.later (Fp.refl Non w3).drew)
  have Hq := Lib.hid (fun W (f : Fp Non w3.drew W) => And.intro (box6 (KD.out.later f).now.1).2.1 (And.intro (box6 (KD.out.later f).now.1).2.2.1 (And.intro (box6 (KD.out.later f).now.1).2.2.2.2.1 (box6 (KD.out.later f).now.1).2.2.2.2.2)))
  go_wp2_with fail
  refine wp_region_held_drew (S := (fun w' => w'.cell? ⟨w.heap.size, 1, none⟩ = some (.string (B p)) ∧ w'.cell? ⟨w.heap.size, 2, none⟩ = some (.string (B d)) ∧ w'.cell? ⟨w.heap.size, 4, none⟩ = some (.int .i64 ow) ∧ w'.cell? ⟨w.heap.size, 5, none⟩ = some (.bool t))) (by kernel_rfl) ?_ (fun hH => ?_)
  ·exact Hq.out _ (Fp.refl _ _)
  generalize w3.drew = wd at *
  refine tk 0 hH ?_
  refine tk 2 hH ?_
  refine tk 4 hH ?_
  refine tk 5 hH ?_
  refine tk 6 hH ?_
  refine tk 7 hH ?_
  refine tk 8 hH ?_
  refine tk 9 hH ?_
  refine tk 10 hH ?_
  refine tk 11 hH ?_
  refine tk 12 hH ?_
  refine tk 13 hH ?_
  refine rY 1 fun K hK => ?_
  go_simp
  go_at_call 69
  refine (HUQ.out _).mono ?_
  rintro e w4 ⟨rfl, hf⟩
  have HF4 := Lib.hid hf
  have K4 := Lib.hid (KD.out.later hf)
  clear hf KD
  go_wp2_with fail
  refine hK.out _ _ (Hq.out _ HF4.out) (fun hH => ?_)
  clear hK K
  try simp only [zz]
  refine tk 3 hH ?_
  refine rY 14 fun K hK => ?_
  go_simp
  refine hK.out _ _ (Hq.out _ (HF4.out.then (fp_alloc w4 _))) (fun hH => ?_)
  clear hK K
  try simp only [zz]
  refine rY 15 fun K hK => ?_
  go_simp
  refine hK.out _ _ (Hq.out _ (HF4.out.then (fp_alloc w4 _))) (fun hH => ?_)
  clear hK K
  try simp only [zz]
  refine dn ?_
  go_wp2
  go_ret
  exact PtR.of K4.out.now.2 [⟨1, upB q, q, [], 0, 0, false⟩, ⟨2, q, p, d, 0, ow, t⟩]
 ·have e : partsOf ⟨2, p, d, v, ow, t⟩ = [⟨3, q, p, [], v, 0, false⟩, ⟨4, p, p, [], 0, 0, false⟩] := by unfold partsOf; rw [if_pos hm]; simp only [hqe]; rfl
  rw [e]
  clear e hm hqe
  go_enter Tryz.func31, Tryz.ntmps31
  go_upto_region 1 with (fail)
  generalize (World.alloc w _) = w0 at *
  obtain ⟨o0, o1, o2, o3, o4, o5⟩ := box6 K0.out.now.1
  go_wp2_with fail
  refine (HM.out _).mono ?_
  rintro e w1 ⟨rfl, hf⟩
  have K1 := Lib.hid (K0.out.later hf)
  clear hf o0 o1 o2 o3 o4 o5 K0
  obtain ⟨o0, o1, o2, o3, o4, o5⟩ := box6 K1.out.now.1
  go_wp2_with fail
  refine (HUP.out _).mono ?_
  rintro e w2 ⟨rfl, hf⟩
  have K2 := Lib.hid (K1.out.later hf)
  clear hf o0 o1 o2 o3 o4 o5 K1
  obtain ⟨o0, o1, o2, o3, o4, o5⟩ := box6 K2.out.now.1
  have g0 := fun x => (box6 (K2.out.later ((Fp.refl Non w2).alloc x)).now.1).1
  have h0 := fun x y => (box6 (K2.out.later (((Fp.refl Non w2).alloc x).alloc y)).now.1).1
  have g1 := fun x => (box6 (K2.out.later ((Fp.refl Non w2).alloc x)).now.1).2.1
  have h1 := fun x y => (box6 (K2.out.later (((Fp.refl Non w2).alloc x).alloc y)).now.1).2.1
  have g2 := fun x => (box6 (K2.out.later ((Fp.refl Non w2).alloc x)).now.1).2.2.1
  have h2 := fun x y => (box6 (K2.out.later (((Fp.refl Non w2).alloc x).alloc y)).now.1).2.2.1
  have g3 := fun x => (box6 (K2.out.later ((Fp.refl Non w2).alloc x)).now.1).2.2.2.1
  have h3 := fun x y => (box6 (K2.out.later (((Fp.refl Non w2).alloc x).alloc y)).now.1).2.2.2.1
  have g4 := fun x => (box6 (K2.out.later ((Fp.refl Non w2).alloc x)).now.1).2.2.2.2.1
  have h4 := fun x y => (box6 (K2.out.later (((Fp.refl Non w2).alloc x).alloc y)).now.1).2.2.2.2.1
  have g5 := fun x => (box6 (K2.out.later ((Fp.refl Non w2).alloc x)).now.1).2.2.2.2.2
  have h5 := fun x y => (box6 (K2.out.later (((Fp.refl Non w2).alloc x).alloc y)).now.1).2.2.2.2.2
  go_wp2
  go_ret
  exact PtR.of2 K2.out.now.2 _ _ [⟨3, q, p, [], v, 0, false⟩, ⟨4, p, p, [], 0, 0, false⟩]
 ·have e : partsOf ⟨3, p, d, v, ow, t⟩ = [⟨5, q, p, d, v, 0, false⟩] := by unfold partsOf; rw [if_pos hm]; simp only [hqe]; rfl
  rw [e]
  clear e hm hqe
  go_enter Tryz.func31, Tryz.ntmps31
  go_upto_region 1 with (fail)
  generalize (World.alloc w _) = w0 at *
  obtain ⟨o0, o1, o2, o3, o4, o5⟩ := box6 K0.out.now.1
  go_wp2_with fail
  refine (HM.out _).mono ?_
  rintro e w1 ⟨rfl, hf⟩
  have K1 := Lib.hid (K0.out.later hf)
  clear hf o0 o1 o2 o3 o4 o5 K0
  obtain ⟨o0, o1, o2, o3, o4, o5⟩ := box6 K1.out.now.1
  go_wp2_with fail
  refine (HUP.out _).mono ?_
  rintro e w2 ⟨rfl, hf⟩
  have K2 := Lib.hid (K1.out.later hf)
  clear hf o0 o1 o2 o3 o4 o5 K1
  obtain ⟨o0, o1, o2, o3, o4, o5⟩ := box6 K2.out.now.1
  have g0 := fun x => (box6 (K2.out.later ((Fp.refl Non w2).alloc x)).now.1).1
  have h0 := fun x y => (box6 (K2.out.later (((Fp.refl Non w2).alloc x).alloc y)).now.1).1
  have g1 := fun x => (box6 (K2.out.later ((Fp.refl Non w2).alloc x)).now.1).2.1
  have h1 := fun x y => (box6 (K2.out.later (((Fp.refl Non w2).alloc x).alloc y)).now.1).2.1
  have g2 := fun x => (box6 (K2.out.later ((Fp.refl Non w2).alloc x)).now.1).2.2.1
  have h2 := fun x y => (box6 (K2.out.later (((Fp.refl Non w2).alloc x).alloc y)).now.1).2.2.1
  have g3 := fun x => (box6 (K2.out.later ((Fp.refl Non w2).alloc x)).now.1).2.2.2.1
  have h3 := fun x y => (box6 (K2.out.later (((Fp.refl Non w2).alloc x).alloc y)).now.1).2.2.2.1
  have g4 := fun x => (box6 (K2.out.later ((Fp.refl Non w2).alloc x)).now.1).2.2.2.2.1
  have h4 := fun x y => (box6 (K2.out.later (((Fp.refl Non w2).alloc x).alloc y)).now.1).2.2.2.2.1
  have g5 := fun x => (box6 (K2.out.later ((Fp.refl Non w2).alloc x)).now.1).2.2.2.2.2
  have h5 := fun x y => (box6 (K2.out.later (((Fp.refl Non w2).alloc x).alloc y)).now.1).2.2.2.2.2
  go_wp2
  go_ret
  exact PtR.of2 K2.out.now.2 _ _ [⟨5, q, p, d, v, 0, false⟩]
 ·have e : partsOf ⟨4, p, d, v, ow, t⟩ = [⟨6, q, p, [], v, 0, false⟩] := by unfold partsOf; rw [if_pos hm]; simp only [hqe]; rfl
  rw [e]
  clear e hm hqe
  go_enter Tryz.func31, Tryz.ntmps31
  go_upto_region 1 with (fail)
  generalize (World.alloc w _) = w0 at *
  obtain ⟨o0, o1, o2, o3, o4, o5⟩ := box6 K0.out.now.1
  go_wp2_with fail
  refine (HM.out _).mono ?_
  rintro e w1 ⟨rfl, hf⟩
  have K1 := Lib.hid (K0.out.later hf)
  clear hf o0 o1 o2 o3 o4 o5 K0
  obtain ⟨o0, o1, o2, o3, o4, o5⟩ := box6 K1.out.now.1
  go_wp2_with fail
  refine (HUP.out _).mono ?_
  rintro e w2 ⟨rfl, hf⟩
  have K2 := Lib.hid (K1.out.later hf)
  clear hf o0 o1 o2 o3 o4 o5 K1
  obtain ⟨o0, o1, o2, o3, o4, o5⟩ := box6 K2.out.now.1
  have g0 := fun x => (box6 (K2.out.later ((Fp.refl Non w2).alloc x)).now.1).1
  have h0 := fun x y => (box6 (K2.out.later (((Fp.refl Non w2).alloc x).alloc y)).now.1).1
  have g1 := fun x => (box6 (K2.out.later ((Fp.refl Non w2).alloc x)).now.1).2.1
  have h1 := fun x y => (box6 (K2.out.later (((Fp.refl Non w2).alloc x).alloc y)).now.1).2.1
  have g2 := fun x => (box6 (K2.out.later ((Fp.refl Non w2).alloc x)).now.1).2.2.1
  have h2 := fun x y => (box6 (K2.out.later (((Fp.refl Non w2).alloc x).alloc y)).now.1).2.2.1
  have g3 := fun x => (box6 (K2.out.later ((Fp.refl Non w2).alloc x)).now.1).2.2.2.1
  have h3 := fun x y => (box6 (K2.out.later (((Fp.refl Non w2).alloc x).alloc y)).now.1).2.2.2.1
  have g4 := fun x => (box6 (K2.out.later ((Fp.refl Non w2).alloc x)).now.1).2.2.2.2.1
  have h4 := fun x y => (box6 (K2.out.later (((Fp.refl Non w2).alloc x).alloc y)).now.1).2.2.2.2.1
  have g5 := fun x => (box6 (K2.out.later ((Fp.refl Non w2).alloc x)).now.1).2.2.2.2.2
  have h5 := fun x y => (box6 (K2.out.later (((Fp.refl Non w2).alloc x).alloc y)).now.1).2.2.2.2.2
  go_wp2
  go_ret
  exact PtR.of2 K2.out.now.2 _ _ [⟨6, q, p, [], v, 0, false⟩]
 ·have e : partsOf ⟨5, p, d, v, ow, t⟩ = [⟨7, q, p, [], 0, 0, false⟩] := by unfold partsOf; rw [if_pos hm]; simp only [hqe]; rfl
  rw [e]
  clear e hm hqe
  go_enter Tryz.func31, Tryz.ntmps31
  go_upto_region 1 with (fail)
  generalize (World.alloc w _) = w0 at *
  obtain ⟨o0, o1, o2, o3, o4, o5⟩ := box6 K0.out.now.1
  go_wp2_with fail
  refine (HM.out _).mono ?_
  rintro e w1 ⟨rfl, hf⟩
  have K1 := Lib.hid (K0.out.later hf)
  clear hf o0 o1 o2 o3 o4 o5 K0
  obtain ⟨o0, o1, o2, o3, o4, o5⟩ := box6 K1.out.now.1
  go_wp2_with fail
  refine (HUP.out _).mono ?_
  rintro e w2 ⟨rfl, hf⟩
  have K2 := Lib.hid (K1.out.later hf)
  clear hf o0 o1 o2 o3 o4 o5 K1
  obtain ⟨o0, o1, o2, o3, o4, o5⟩ := box6 K2.out.now.1
  have g0 := fun x => (box6 (K2.out.later ((Fp.refl Non w2).alloc x)).now.1).1
  have h0 := fun x y => (box6 (K2.out.later (((Fp.refl Non w2).alloc x).alloc y)).now.1).1
  have g1 := fun x => (box6 (K2.out.later ((Fp.refl Non w2).alloc x)).now.1).2.1
  have h1 := fun x y => (box6 (K2.out.later (((Fp.refl Non w2).alloc x).alloc y)).now.1).2.1
  have g2 := fun x => (box6 (K2.out.later ((Fp.refl Non w2).alloc x)).now.1).2.2.1
  have h2 := fun x y => (box6 (K2.out.later (((Fp.refl Non w2).alloc x).alloc y)).now.1).2.2.1
  have g3 := fun x => (box6 (K2.out.later ((Fp.refl Non w2).alloc x)).now.1).2.2.2.1
  have h3 := fun x y => (box6 (K2.out.later (((Fp.refl Non w2).alloc x).alloc y)).now.1).2.2.2.1
  have g4 := fun x => (box6 (K2.out.later ((Fp.refl Non w2).alloc x)).now.1).2.2.2.2.1
  have h4 := fun x y => (box6 (K2.out.later (((Fp.refl Non w2).alloc x).alloc y)).now.1).2.2.2.2.1
  have g5 := fun x => (box6 (K2.out.later ((Fp.refl Non w2).alloc x)).now.1).2.2.2.2.2
  have h5 := fun x y => (box6 (K2.out.later (((Fp.refl Non w2).alloc x).alloc y)).now.1).2.2.2.2.2
  go_wp2
  go_ret
  exact PtR.of2 K2.out.now.2 _ _ [⟨7, q, p, [], 0, 0, false⟩]
 ·have e : partsOf ⟨6, p, d, v, ow, t⟩ = [⟨8, q, p, [], 0, 0, false⟩, ⟨9, p, p, [], 0, 0, false⟩] := by unfold partsOf; rw [if_pos hm]; simp only [hqe]; rfl
  rw [e]
  clear e hm hqe
  go_enter Tryz.func31, Tryz.ntmps31
  go_upto_region 1 with (fail)
  generalize (World.alloc w _) = w0 at *
  obtain ⟨o0, o1, o2, o3, o4, o5⟩ := box6 K0.out.now.1
  go_wp2_with fail
  refine (HM.out _).mono ?_
  rintro e w1 ⟨rfl, hf⟩
  have K1 := Lib.hid (K0.out.later hf)
  clear hf o0 o1 o2 o3 o4 o5 K0
  obtain ⟨o0, o1, o2, o3, o4, o5⟩ := box6 K1.out.now.1
  go_wp2_with fail
  refine (HUP.out _).mono ?_
  rintro e w2 ⟨rfl, hf⟩
  have K2 := Lib.hid (K1.out.later hf)
  clear hf o0 o1 o2 o3 o4 o5 K1
  obtain ⟨o0, o1, o2, o3, o4, o5⟩ := box6 K2.out.now.1
  have g0 := fun x => (box6 (K2.out.later ((Fp.refl Non w2).alloc x)).now.1).1
  have h0 := fun x y => (box6 (K2.out.later (((Fp.refl Non w2).alloc x).alloc y)).now.1).1
  have g1 := fun x => (box6 (K2.out.later ((Fp.refl Non w2).alloc x)).now.1).2.1
  have h1 := fun x y => (box6 (K2.out.later (((Fp.refl Non w2).alloc x).alloc y)).now.1).2.1
  have g2 := fun x => (box6 (K2.out.later ((Fp.refl Non w2).alloc x)).now.1).2.2.1
  have h2 := fun x y => (box6 (K2.out.later (((Fp.refl Non w2).alloc x).alloc y)).now.1).2.2.1
  have g3 := fun x => (box6 (K2.out.later ((Fp.refl Non w2).alloc x)).now.1).2.2.2.1
  have h3 := fun x y => (box6 (K2.out.later (((Fp.refl Non w2).alloc x).alloc y)).now.1).2.2.2.1
  have g4 := fun x => (box6 (K2.out.later ((Fp.refl Non w2).alloc x)).now.1).2.2.2.2.1
  have h4 := fun x y => (box6 (K2.out.later (((Fp.refl Non w2).alloc x).alloc y)).now.1).2.2.2.2.1
  have g5 := fun x => (box6 (K2.out.later ((Fp.refl Non w2).alloc x)).now.1).2.2.2.2.2
  have h5 := fun x y => (box6 (K2.out.later (((Fp.refl Non w2).alloc x).alloc y)).now.1).2.2.2.2.2
  go_wp2
  go_ret
  exact PtR.of2 K2.out.now.2 _ _ [⟨8, q, p, [], 0, 0, false⟩, ⟨9, p, p, [], 0, 0, false⟩]
 have e : partsOf ⟨7, p, d, v, ow, t⟩ = [⟨8, q, p, [], 0, 0, false⟩, ⟨10, p, p, [], 0, ow, false⟩] := by unfold partsOf; rw [if_pos hm]; simp only [hqe]; rfl
 rw [e]
 clear e hm hqe
 go_enter Tryz.func31, Tryz.ntmps31
 go_upto_region 1 with (fail)
 generalize (World.alloc w _) = w0 at *
 obtain ⟨o0, o1, o2, o3, o4, o5⟩ := box6 K0.out.now.1
 go_wp2_with fail
 refine (HM.out _).mono ?_
 rintro e w1 ⟨rfl, hf⟩
 have K1 := Lib.hid (K0.out.later hf)
 clear hf o0 o1 o2 o3 o4 o5 K0
 obtain ⟨o0, o1, o2, o3, o4, o5⟩ := box6 K1.out.now.1
 go_wp2_with fail
 refine (HUP.out _).mono ?_
 rintro e w2 ⟨rfl, hf⟩
 have K2 := Lib.hid (K1.out.later hf)
 clear hf o0 o1 o2 o3 o4 o5 K1
 obtain ⟨o0, o1, o2, o3, o4, o5⟩ := box6 K2.out.now.1
 have g0 := fun x => (box6 (K2.out.later ((Fp.refl Non w2).alloc x)).now.1).1
 have h0 := fun x y => (box6 (K2.out.later (((Fp.refl Non w2).alloc x).alloc y)).now.1).1
 have g1 := fun x => (box6 (K2.out.later ((Fp.refl Non w2).alloc x)).now.1).2.1
 have h1 := fun x y => (box6 (K2.out.later (((Fp.refl Non w2).alloc x).alloc y)).now.1).2.1
 have g2 := fun x => (box6 (K2.out.later ((Fp.refl Non w2).alloc x)).now.1).2.2.1
 have h2 := fun x y => (box6 (K2.out.later (((Fp.refl Non w2).alloc x).alloc y)).now.1).2.2.1
 have g3 := fun x => (box6 (K2.out.later ((Fp.refl Non w2).alloc x)).now.1).2.2.2.1
 have h3 := fun x y => (box6 (K2.out.later (((Fp.refl Non w2).alloc x).alloc y)).now.1).2.2.2.1
 have g4 := fun x => (box6 (K2.out.later ((Fp.refl Non w2).alloc x)).now.1).2.2.2.2.1
 have h4 := fun x y => (box6 (K2.out.later (((Fp.refl Non w2).alloc x).alloc y)).now.1).2.2.2.2.1
 have g5 := fun x => (box6 (K2.out.later ((Fp.refl Non w2).alloc x)).now.1).2.2.2.2.2
 have h5 := fun x y => (box6 (K2.out.later (((Fp.refl Non w2).alloc x).alloc y)).now.1).2.2.2.2.2
 go_wp2
 go_ret
 exact PtR.of2 K2.out.now.2 _ _ [⟨8, q, p, [], 0, 0, false⟩, ⟨10, p, p, [], 0, ow, false⟩]
end Go.Proofs.YtphoglepiegeiaaGreatDoor
