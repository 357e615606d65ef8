/- A text of this proof. -/
import Derived.Laws.EntriesVeiled
import Derived.Test.YtphoglepiegeiaaGreatDoorZBBA
import Derived.Test.YtphoglepiegeiaaGreatDoorZBC
import Derived.Test.YtphoglepiegeiaaGreatDoorZBF
import Derived.Test.YtphoglepiegeiaaGreatDoorZBG
import Derived.Test.YtphoglepiegeiaaGreatDoorZBH
import Derived.Test.YtphoglepiegeiaaGreatDoorZBI
import Derived.Test.YtphoglepiegeiaaGreatDoorZBQ
set_option linter.unusedSimpArgs false
set_option linter.unusedVariables false
namespace Go.Proofs.YtphoglepiegeiaaGreatDoor
set_option maxRecDepth 20000
open Go.RowKit Pm
def fillP (q : Bs) (x : Pt) : Pt := { x with path := if x.kind = 1 then upB q else q, dir := keptAt x.kind (if x.kind = 1 then upB q else q) }
def cur (q : Bs) (l : List Pt) (k : Nat) : List Pt := (l.take k).map (fillP q) ++ l.drop k
theorem cur_rows (q : Bs) (l : List Pt) (k : Nat) (hk : k < l.length) : rowsG ptC (cur q l k) = rowsG ptC ((l.take k).map (fillP q)) ++ (ptC l[k] ++ rowsG ptC (l.drop (k + 1))) := by
 unfold cur
 rw [rowsG_app, List.drop_eq_getElem_cons hk, rowsG_cons]
theorem cur_next (q : Bs) (l : List Pt) (k : Nat) (hk : k < l.length) : rowsG ptC ((l.take k).map (fillP q)) ++ (ptC (fillP q l[k]) ++ rowsG ptC (l.drop (k + 1))) = rowsG ptC (cur q l (k + 1)) := by
 unfold cur
 rw [List.take_succ_eq_append_getElem hk, List.map_append, rowsG_app, rowsG_app, List.append_assoc]
 simp [rowsG]
theorem cur_len (q : Bs) (l : List Pt) (k : Nat) (hk : k ≤ l.length) : (rowsG ptC ((l.take k).map (fillP q))).length = k * 7 := by
 rw [rowsG_len ptC_len, List.length_map, List.length_take, Nat.min_eq_left hk]
theorem upB_len {p : Bs} (h : p.length ≤ 100) : (upB p).length ≤ 100 := by
 unfold upB
 cases hp : parent p with
 | none => simp
 | some u => obtain ⟨_, _, _, h1, _⟩ := parent_some hp; exact h1
structure R7 (G k : Nat) (A C : List Value) (c0 c1 c2 c3 c4 c5 c6 : Value) (w : World) : Prop where
 row : w.heap[G]? = some (.cells (A ++ ([c0, c1, c2, c3, c4, c5, c6] ++ C)).toArray TP (0, 0))
 len : A.length = k * 7
section
variable {G k : Nat} {A C : List Value} {c0 c1 c2 c3 c4 c5 c6 : Value} {w w' : World}
theorem R7.non (h : R7 G k A C c0 c1 c2 c3 c4 c5 c6 w) (f : Fp Non w w') : R7 G k A C c0 c1 c2 c3 c4 c5 c6 w' := ⟨f.heap h.row id, h.len⟩
theorem R7.fz (h : R7 G k A C c0 c1 c2 c3 c4 c5 c6 w) (j : Nat) : w.frozen? ⟨G, k * 7 + j, none⟩ = false := frozen_at h.row _
theorem R7.get (h : R7 G k A C c0 c1 c2 c3 c4 c5 c6 w) (j : Nat) (v : Value) (hj : [c0, c1, c2, c3, c4, c5, c6][j]? = some v) : w.cell? ⟨G, k * 7 + j, none⟩ = some v := by
 rw [cell_of_row _ _ _ _ _ _ h.row, List.getElem?_toArray, List.getElem?_append_right (by rw [h.len]; omega), h.len, Nat.add_sub_cancel_left]
 rw [List.getElem?_append_left (List.getElem?_eq_some_iff.1 hj).1]; exact hj
theorem R7.at0 (h : R7 G k A C c0 c1 c2 c3 c4 c5 c6 w) : w.cell? ⟨G, k * 7, none⟩ = some c0 := h.get 0 c0 rfl
theorem R7.at1 (h : R7 G k A C c0 c1 c2 c3 c4 c5 c6 w) : w.cell? ⟨G, k * 7 + 1, none⟩ = some c1 := h.get 1 c1 rfl
theorem R7.at2 (h : R7 G k A C c0 c1 c2 c3 c4 c5 c6 w) : w.cell? ⟨G, k * 7 + 2, none⟩ = some c2 := h.get 2 c2 rfl
theorem R7.set1 (h : R7 G k A C c0 c1 c2 c3 c4 c5 c6 w) (v : Value) : R7 G k A C c0 v c2 c3 c4 c5 c6 (w.setCell ⟨G, k * 7 + 1, none⟩ v) := by
 refine ⟨?_, h.len⟩
 rw [heap_setCell_same w G (k * 7 + 1) _ TP v h.row, List.setIfInBounds_toArray, List.set_append_right _ _ (by rw [h.len]; omega), h.len, Nat.add_sub_cancel_left]; rfl
theorem R7.set2 (h : R7 G k A C c0 c1 c2 c3 c4 c5 c6 w) (v : Value) : R7 G k A C c0 c1 v c3 c4 c5 c6 (w.setCell ⟨G, k * 7 + 2, none⟩ v) := by
 refine ⟨?_, h.len⟩
 rw [heap_setCell_same w G (k * 7 + 2) _ TP v h.row, List.setIfInBounds_toArray, List.set_append_right _ _ (by rw [h.len]; omega), h.len, Nat.add_sub_cancel_left]; rfl
end
set_option maxHeartbeats 16000000 in
theorem Of1_c (l : List Pt) (G g : Nat) (q : Bs) (w : World) (hG : w.heap[G]? = some (.cells (rowsG ptC l).toArray TP (0, 0))) (hg : w.cell? ⟨g, 1, none⟩ = some (.string (B q))) (hgG : g ≠ G) (hq : q.length ≤ 100) (hl : l.length ≤ 10) :
  Calls Tryz.prog 76 #[.slice (some ⟨G, 0, none⟩) l.length l.length, .pointer (some ⟨g, 0, none⟩)] w fun e w' => e = .returned (.slice (some ⟨G, 0, none⟩) l.length l.length) ∧ w'.heap[G]? = some (.cells (rowsG ptC (l.map (fillP q))).toArray TP (0, 0)) ∧ Fp (fun j => j = G) w w' := by
 obtain ⟨n, hn⟩ : ∃ n, n = l.length := ⟨_, rfl⟩
 rw [← hn]
 have hn10 : n ≤ 10 := by omega
 have HX := Lib.hid (And.intro hn (And.intro hg (And.intro hgG hq)))
 have H0 : Hid (w.heap[G]? = some (.cells (rowsG ptC (cur q l 0)).toArray TP (0, 0)) ∧ Fp (fun j => j = G) w w) := ⟨by unfold cur; simpa using hG, Fp.refl _ _⟩
 clear hG hg hgG hq hl hn
 go_enter Tryz.func76, Tryz.ntmps76
 go_wp2_with fail
 go_loopw [8] (fun i wr => ∃ k : Nat, k ≤ n ∧ i = .int .i64 k ∧ Hid (wr.heap[G]? = some (.cells (rowsG ptC (cur q l k)).toArray TP (0, 0)) ∧ Fp (fun j => j = G) w wr)) (fun i _ => n - (RowKit.intOf i).toNat)
 case atStart => exact ⟨0, Nat.zero_le _, rfl, H0⟩
 clear H0
 obtain ⟨k, hk, rfl, hR0⟩ := hrel
 rename_i wr _
 by_cases hlt : k < n
 ·have hkl : k < l.length := by rw [← HX.out.1]; exact hlt
  have hrow := hR0.out.1
  rw [cur_rows q l k hkl] at hrow
  have hnx := cur_next q l k hkl
  have hlen := cur_len q l k (Nat.le_of_lt hkl)
  obtain ⟨x, hx⟩ : ∃ x, l[k] = x := ⟨_, rfl⟩
  rw [hx] at hrow hnx
  obtain ⟨kd, dd, p0, da, ve, ow, tt⟩ := x
  generalize rowsG ptC ((l.take k).map (fillP q)) = A at *
  generalize rowsG ptC (l.drop (k + 1)) = C at *
  have HR : Hid (R7 G k A C (.int .i64 kd) (.string (B dd)) (.string (B p0)) (.string (B da)) (.int .i64 ve) (.int .i64 ow) (.bool tt) wr ∧ Fp (fun j => j = G) w wr) := ⟨⟨hrow, hlen⟩, hR0.out.2⟩
  have c0 := HR.out.1.at0; have c1 := HR.out.1.at1; have c2 := HR.out.1.at2
  have z2 := HR.out.1.fz 2
  have g1 := HR.out.2.cell HX.out.2.1 HX.out.2.2.1
  have hq := HX.out.2.2.2
  have HL := Lib.hid hlt
  have q3 : ((k : Int) < (n : Int)) = True := eq_true (by omega)
  have q4 : (k < n) = True := eq_true hlt
  have ng : (g = G) = False := eq_false HX.out.2.2.1
  have ng2 : (G = g) = False := eq_false (fun e => HX.out.2.2.1 e.symm)
  clear hrow hlen hR0 hlt
  by_cases hk1 : kd = 1
  ·subst hk1
   have HNX : Hid (∀ wz, R7 G k A C (.int .i64 1) (.string (B (keptAt 1 (upB q)))) (.string (B (upB q))) (.string (B da)) (.int .i64 ve) (.int .i64 ow) (.bool tt) wz → wz.heap[G]? = some (.cells (rowsG ptC (cur q l (k + 1))).toArray TP (0, 0))) := fun wz h => by rw [← hnx]; exact h.row
   clear hnx
   have HUP := Lib.hid (fun w => upP_c q w (by omega))
   have HKE := Lib.hid (fun w => keptAt_c 1 (upB q) w (by have := upB_len hq; omega))
   clear hx hq hkl
   go_wp2_with fail
   have HR0 := Lib.hid (And.intro (HR.out.2.setCell (S := fun j => j = G) (p := ⟨G, k * 7 + 2, none⟩) (.inl rfl) (.string (B q))) (HR.out.1.set2 (.string (B q))))
   clear c0 c1 c2 z2
   generalize (wr.setCell ⟨G, k * 7 + 2, none⟩ _) = W0 at *
   refine (HUP.out _).mono ?_
   rintro e w3 ⟨rfl, hf3⟩
   have HR3 := Lib.hid (And.intro (HR0.out.1.trans hf3 (fun _ h => h.elim)) (HR0.out.2.non hf3))
   clear hf3
   have z3 := HR3.out.2.fz 2
   have c0 := HR3.out.2.at0; have c2 := HR3.out.2.at2
   go_wp2_with fail
   have HR1a := Lib.hid (And.intro (HR3.out.1.setCell (S := fun j => j = G) (p := ⟨G, k * 7 + 2, none⟩) (.inl rfl) (.string (B (upB q)))) (HR3.out.2.set2 (.string (B (upB q)))))
   clear c0 c2 z3
   generalize (w3.setCell ⟨G, k * 7 + 2, none⟩ _) = W1 at *
   have HR1 := Lib.hid (And.intro (HR1a.out.1.trans (Fp.refl Non W1).drew (fun _ h => h.elim)) (HR1a.out.2.non (Fp.refl Non W1).drew))
   have HS0 := Lib.hid (And.intro HR1.out.2.at0 HR1.out.2.at2)
   refine wp_region_held_drew (S := (fun w' => w'.cell? ⟨G, k * 7, none⟩ = some (.int .i64 1) ∧ w'.cell? ⟨G, k * 7 + 2, none⟩ = some (.string (B (upB q))))) (by kernel_rfl) ?_ (fun hH => ?_)
   ·exact HS0.out
   generalize W1.drew = wd at *
   refine tk 0 hH ?_
   refine tk 1 hH ?_
   refine tk 2 hH ?_
   refine tk 3 hH ?_
   refine tk 4 hH ?_
   refine tk 5 hH ?_
   refine tk 6 hH ?_
   refine tk 7 hH ?_
   refine tk 8 hH ?_
   refine rY 9 fun K hK => ?_
   go_simp
   go_at_call 68
   refine (HKE.out _).mono ?_
   rintro e w9 ⟨rfl, hf9⟩
   have HR9 := Lib.hid (And.intro (HR1.out.1.trans hf9 (fun _ h => h.elim)) (HR1.out.2.non hf9))
   have HS9 := Lib.hid (And.intro HR9.out.2.at0 HR9.out.2.at2)
   have z9 := HR9.out.2.fz 1
   have c19 := HR9.out.2.at1
   have hr10 := HR9.out.2.set1 (.string (B (keptAt 1 (upB q))))
   have HS10 := Lib.hid (And.intro hr10.at0 hr10.at2)
   have HR10 := Lib.hid (And.intro (HR9.out.1.setCell (S := fun j => j = G) (p := ⟨G, k * 7 + 1, none⟩) (.inl rfl) (.string (B (keptAt 1 (upB q))))) hr10)
   clear hf9 hr10
   go_wp2_with fail
   refine hK.out _ _ HS9.out (fun hH => ?_)
   clear hK K
   try simp only [zz]
   refine tk 10 hH ?_
   refine tk 11 hH ?_
   refine rY 12 fun K hK => ?_
   go_simp
   refine hK.out _ _ HS10.out (fun hH => ?_)
   clear hK K z9 c19
   try simp only [zz]
   refine dn ?_
   clear hH
   generalize (w9.setCell ⟨G, k * 7 + 1, none⟩ _) = wz at *
   have hM : Hid (wz.heap[G]? = some (.cells (rowsG ptC (cur q l (k + 1))).toArray TP (0, 0)) ∧ Fp (fun j => j = G) w wz) := ⟨HNX.out wz HR10.out.2, HR10.out.1⟩
   have hj1 := HL.out
   go_wp2
   go_roundw
   case rel => exact ⟨k + 1, by omega, by go_num, hM⟩
   case measure => simp [RowKit.intOf]; omega
  have q5 : (kd == 1) = false := beq_eq_false_iff_ne.2 hk1
  have q6 : (kd = 1) = False := eq_false hk1
  have HNX : Hid (∀ wz, R7 G k A C (.int .i64 kd) (.string (B (keptAt kd q))) (.string (B q)) (.string (B da)) (.int .i64 ve) (.int .i64 ow) (.bool tt) wz → wz.heap[G]? = some (.cells (rowsG ptC (cur q l (k + 1))).toArray TP (0, 0))) := fun wz h => by
   rw [← hnx]
   have e : fillP q ⟨kd, dd, p0, da, ve, ow, tt⟩ = ⟨kd, keptAt kd q, q, da, ve, ow, tt⟩ := by unfold fillP; simp only [hk1, if_false]
   rw [e]; exact h.row
  clear hnx hk1
  have HKE := Lib.hid (fun w => keptAt_c kd q w (by omega))
  clear hx hq hkl
  go_wp2_with fail
  have HR1a := Lib.hid (And.intro (HR.out.2.setCell (S := fun j => j = G) (p := ⟨G, k * 7 + 2, none⟩) (.inl rfl) (.string (B q))) (HR.out.1.set2 (.string (B q))))
  clear c0 c1 c2 z2
  generalize (wr.setCell ⟨G, k * 7 + 2, none⟩ _) = W1 at *
  have HR1 := Lib.hid (And.intro (HR1a.out.1.trans (Fp.refl Non W1).drew (fun _ h => h.elim)) (HR1a.out.2.non (Fp.refl Non W1).drew))
  have HS0 := Lib.hid (And.intro HR1.out.2.at0 HR1.out.2.at2)
  refine wp_region_held_drew (S := (fun w' => w'.cell? ⟨G, k * 7, none⟩ = some (.int .i64 kd) ∧ w'.cell? ⟨G, k * 7 + 2, none⟩ = some (.string (B q)))) (by kernel_rfl) ?_ (fun hH => ?_)
  ·exact HS0.out
  generalize W1.drew = wd at *
  refine tk 0 hH ?_
  refine tk 1 hH ?_
  refine tk 2 hH ?_
  refine tk 3 hH ?_
  refine tk 4 hH ?_
  refine tk 5 hH ?_
  refine tk 6 hH ?_
  refine tk 7 hH ?_
  refine tk 8 hH ?_
  refine rY 9 fun K hK => ?_
  go_simp
  go_at_call 68
  refine (HKE.out _).mono ?_
  rintro e w9 ⟨rfl, hf9⟩
  have HR9 := Lib.hid (And.intro (HR1.out.1.trans hf9 (fun _ h => h.elim)) (HR1.out.2.non hf9))
  have HS9 := Lib.hid (And.intro HR9.out.2.at0 HR9.out.2.at2)
  have z9 := HR9.out.2.fz 1
  have c19 := HR9.out.2.at1
  have hr10 := HR9.out.2.set1 (.string (B (keptAt kd q)))
  have HS10 := Lib.hid (And.intro hr10.at0 hr10.at2)
  have HR10 := Lib.hid (And.intro (HR9.out.1.setCell (S := fun j => j = G) (p := ⟨G, k * 7 + 1, none⟩) (.inl rfl) (.string (B (keptAt kd q)))) hr10)
  clear hf9 hr10
  go_wp2_with fail
  refine hK.out _ _ HS9.out (fun hH => ?_)
  clear hK K
  try simp only [zz]
  refine tk 10 hH ?_
  refine tk 11 hH ?_
  refine rY 12 fun K hK => ?_
  go_simp
  refine hK.out _ _ HS10.out (fun hH => ?_)
  clear hK K z9 c19
  try simp only [zz]
  refine dn ?_
  clear hH
  generalize (w9.setCell ⟨G, k * 7 + 1, none⟩ _) = wz at *
  have hM : Hid (wz.heap[G]? = some (.cells (rowsG ptC (cur q l (k + 1))).toArray TP (0, 0)) ∧ Fp (fun j => j = G) w wz) := ⟨HNX.out wz HR10.out.2, HR10.out.1⟩
  have hj1 := HL.out
  go_wp2
  go_roundw
  case rel => exact ⟨k + 1, by omega, by go_num, hM⟩
  case measure => simp [RowKit.intOf]; omega
 have hke : k = n := by omega
 subst hke
 have q3 : ((k : Int) < (k : Int)) = False := eq_false (by omega)
 have hfin := hR0.out.1
 unfold cur at hfin
 rw [HX.out.1, List.take_length, List.drop_length, List.append_nil] at hfin
 have HF := Lib.hid (And.intro hfin hR0.out.2)
 clear hlt hk hfin hR0
 go_wp2
 go_ret
 exact ⟨rfl, HF.out.1, HF.out.2⟩
end Go.Proofs.YtphoglepiegeiaaGreatDoor
namespace Go.Proofs.YtphoglepiegeiaaGreatDoor
set_option maxRecDepth 20000
open Go.RowKit Pm
theorem Sg.of_row {α : Type} {enc : α → List Value} {k : Nat} (hk : ∀ x, (enc x).length = k) {w : World} {G : Nat} {T : TypeId} {l : List α} (c : Nat) (h : w.heap[G]? = some (.cells (rowsG enc l).toArray T (0, 0))) : Sg enc k w (.slice (some ⟨G, 0, none⟩) l.length c) l := by
 refine ⟨_, c, rfl, .inr ⟨G, 0, rfl, fun i hi => ⟨fun j v hv => ?_⟩⟩⟩
 have hj : j < k := by rw [← hk l[i]]; exact (List.getElem?_eq_some_iff.1 hv).1
 rw [cell_of_row w G _ _ T (0, 0) h, Nat.zero_add, List.getElem?_toArray, rowsG_get hk l i j hi hj]
 exact hv
theorem of_step {q : Bs} (l : List Pt) (g : Nat) (w : World) (hg : w.cell? ⟨g, 1, none⟩ = some (.string (B q))) (hgl : g < w.heap.size) (hq : q.length ≤ 100) (hl : l.length ≤ 10) :
  Calls Tryz.prog 76 #[.slice (some ⟨w.heap.size, 0, none⟩) l.length l.length, .pointer (some ⟨g, 0, none⟩)] (w.alloc (.cells (rowsG ptC l).toArray TP)) fun e w' => e = .returned (.slice (some ⟨w.heap.size, 0, none⟩) l.length l.length) ∧ Sg ptC 7 w' (.slice (some ⟨w.heap.size, 0, none⟩) l.length l.length) (l.map (fillP q)) ∧ Fp Non w w' := by
 have hf := fp_alloc w (.cells (rowsG ptC l).toArray TP)
 refine (Of1_c l w.heap.size g q _ (heap_alloc_new w _) (hf.cell hg id) (by omega) hq hl).mono ?_
 rintro e w' ⟨rfl, h1, h2⟩
 refine ⟨rfl, ?_, hf.trans h2 (fun k hk => .inr (by omega))⟩
 have := Sg.of_row ptC_len l.length h1
 rwa [List.length_map] at this
set_option maxHeartbeats 16000000 in
theorem Of_f (o : Opn) (w : World) (hl : o.path.length ≤ 1000000) :
  Calls Tryz.prog 30 #[opV o] w fun e w' => (∃ v', e = .returned v' ∧ Sg ptC 7 w' v' (partsOf o) ∧ ∀ j, v'.ownBlock = some j → w.heap.size ≤ j) ∧ Fp Non w w' := by
 have hmc := fun w => May_c o w hl
 obtain ⟨kk, p, d, v, ow, t⟩ := o
 obtain ⟨bm, hm⟩ : ∃ b, may ⟨kk, p, d, v, ow, t⟩ = b := ⟨_, rfl⟩
 rw [hm] at hmc
 have hf0 := fp_alloc w (.cells #[.int .i64 kk, .string (B p), .string (B d), .int .i64 v, .int .i64 ow, .bool t] TO_)
 have hb0 := heap_alloc_new w (.cells #[.int .i64 kk, .string (B p), .string (B d), .int .i64 v, .int .i64 ow, .bool t] TO_)
 have HF0 := Lib.hid (And.intro hf0 hb0)
 unfold opV strV at hmc ⊢
 simp only at hmc ⊢
 have HM := Lib.hid hmc
 clear hmc hf0 hb0
 cases bm with
 | false =>
  have e : partsOf ⟨kk, p, d, v, ow, t⟩ = [] := by unfold partsOf; rw [hm]; rfl
  rw [e]
  clear e hm hl
  go_enter Tryz.func30, Tryz.ntmps30
  go_wp2_with fail
  refine (HM.out _).mono ?_
  rintro e w1 ⟨rfl, hf⟩
  have F := Lib.hid (HF0.out.1.then hf)
  clear hf
  go_wp2
  go_ret
  exact ⟨⟨_, rfl, Sg.nil _, fun j hj => by simp [Value.ownBlock] at hj⟩, F.out⟩
 | true => ?_
 have hk := may_kind hm
 have hp : p.length ≤ 100 := split_len (may_split hm)
 clear hl
 simp only at hk
 rcases hk with rfl | rfl | rfl | rfl | rfl | rfl | rfl
 ·obtain ⟨ps, hps⟩ : ∃ ps, ps = partsOf ⟨1, p, d, v, ow, t⟩ := ⟨_, rfl⟩
  have hpe : ([⟨1, [], [], [], 0, 0, false⟩, ⟨2, [], [], d, 0, ow, t⟩] : List Pt).map (fillP p) = ps := by rw [hps]; unfold partsOf; rw [if_pos hm]; simp [fillP, keptAt]
  rw [← hps]
  have HPE := Lib.hid (And.intro hpe hp)
  clear hpe hps hp hm
  go_enter Tryz.func30, Tryz.ntmps30
  go_wp2_with fail
  refine (HM.out _).mono ?_
  rintro e w1 ⟨rfl, hf⟩
  have K1 := Lib.hid (And.intro (HF0.out.1.then hf) (hf.heap HF0.out.2 id))
  clear hf
  obtain ⟨o0, o1, o2, o3, o4, o5⟩ := box6 K1.out.2
  have HC := Lib.hid (of_step (q := p) ([⟨1, [], [], [], 0, 0, false⟩, ⟨2, [], [], d, 0, ow, t⟩] : List Pt) w.heap.size w1 o1 (Array.getElem?_eq_some_iff.1 K1.out.2).1 HPE.out.2 (by simp))
  go_wp2_with fail
  refine HC.out.mono ?_
  rintro e w2 ⟨rfl, hsg, hf⟩
  have HE := Lib.hid (And.intro (show Sg ptC 7 w2 (.slice (some ⟨w1.heap.size, 0, none⟩) 2 2) ps by rw [← HPE.out.1]; exact hsg) (K1.out.1.then hf))
  clear hsg hf
  go_wp2
  go_ret
  exact ⟨⟨_, rfl, HE.out.1, fun j hj => by have h1 := K1.out.1.size; simp [Value.ownBlock] at hj; omega⟩, HE.out.2⟩
 ·obtain ⟨ps, hps⟩ : ∃ ps, ps = partsOf ⟨2, p, d, v, ow, t⟩ := ⟨_, rfl⟩
  have hpe : ([⟨3, [], [], [], v, 0, false⟩, ⟨4, [], [], [], 0, 0, false⟩] : List Pt).map (fillP p) = ps := by rw [hps]; unfold partsOf; rw [if_pos hm]; simp [fillP, keptAt]
  rw [← hps]
  have HPE := Lib.hid (And.intro hpe hp)
  clear hpe hps hp hm
  go_enter Tryz.func30, Tryz.ntmps30
  go_wp2_with fail
  refine (HM.out _).mono ?_
  rintro e w1 ⟨rfl, hf⟩
  have K1 := Lib.hid (And.intro (HF0.out.1.then hf) (hf.heap HF0.out.2 id))
  clear hf
  obtain ⟨o0, o1, o2, o3, o4, o5⟩ := box6 K1.out.2
  have HC := Lib.hid (of_step (q := p) ([⟨3, [], [], [], v, 0, false⟩, ⟨4, [], [], [], 0, 0, false⟩] : List Pt) w.heap.size w1 o1 (Array.getElem?_eq_some_iff.1 K1.out.2).1 HPE.out.2 (by simp))
  go_wp2_with fail
  refine HC.out.mono ?_
  rintro e w2 ⟨rfl, hsg, hf⟩
  have HE := Lib.hid (And.intro (show Sg ptC 7 w2 (.slice (some ⟨w1.heap.size, 0, none⟩) 2 2) ps by rw [← HPE.out.1]; exact hsg) (K1.out.1.then hf))
  clear hsg hf
  go_wp2
  go_ret
  exact ⟨⟨_, rfl, HE.out.1, fun j hj => by have h1 := K1.out.1.size; simp [Value.ownBlock] at hj; omega⟩, HE.out.2⟩
 ·obtain ⟨ps, hps⟩ : ∃ ps, ps = partsOf ⟨3, p, d, v, ow, t⟩ := ⟨_, rfl⟩
  have hpe : ([⟨5, [], [], d, v, 0, false⟩] : List Pt).map (fillP p) = ps := by rw [hps]; unfold partsOf; rw [if_pos hm]; simp [fillP, keptAt]
  rw [← hps]
  have HPE := Lib.hid (And.intro hpe hp)
  clear hpe hps hp hm
  go_enter Tryz.func30, Tryz.ntmps30
  go_wp2_with fail
  refine (HM.out _).mono ?_
  rintro e w1 ⟨rfl, hf⟩
  have K1 := Lib.hid (And.intro (HF0.out.1.then hf) (hf.heap HF0.out.2 id))
  clear hf
  obtain ⟨o0, o1, o2, o3, o4, o5⟩ := box6 K1.out.2
  have HC := Lib.hid (of_step (q := p) ([⟨5, [], [], d, v, 0, false⟩] : List Pt) w.heap.size w1 o1 (Array.getElem?_eq_some_iff.1 K1.out.2).1 HPE.out.2 (by simp))
  go_wp2_with fail
  refine HC.out.mono ?_
  rintro e w2 ⟨rfl, hsg, hf⟩
  have HE := Lib.hid (And.intro (show Sg ptC 7 w2 (.slice (some ⟨w1.heap.size, 0, none⟩) 1 1) ps by rw [← HPE.out.1]; exact hsg) (K1.out.1.then hf))
  clear hsg hf
  go_wp2
  go_ret
  exact ⟨⟨_, rfl, HE.out.1, fun j hj => by have h1 := K1.out.1.size; simp [Value.ownBlock] at hj; omega⟩, HE.out.2⟩
 ·obtain ⟨ps, hps⟩ : ∃ ps, ps = partsOf ⟨4, p, d, v, ow, t⟩ := ⟨_, rfl⟩
  have hpe : ([⟨6, [], [], [], v, 0, false⟩] : List Pt).map (fillP p) = ps := by rw [hps]; unfold partsOf; rw [if_pos hm]; simp [fillP, keptAt]
  rw [← hps]
  have HPE := Lib.hid (And.intro hpe hp)
  clear hpe hps hp hm
  go_enter Tryz.func30, Tryz.ntmps30
  go_wp2_with fail
  refine (HM.out _).mono ?_
  rintro e w1 ⟨rfl, hf⟩
  have K1 := Lib.hid (And.intro (HF0.out.1.then hf) (hf.heap HF0.out.2 id))
  clear hf
  obtain ⟨o0, o1, o2, o3, o4, o5⟩ := box6 K1.out.2
  have HC := Lib.hid (of_step (q := p) ([⟨6, [], [], [], v, 0, false⟩] : List Pt) w.heap.size w1 o1 (Array.getElem?_eq_some_iff.1 K1.out.2).1 HPE.out.2 (by simp))
  go_wp2_with fail
  refine HC.out.mono ?_
  rintro e w2 ⟨rfl, hsg, hf⟩
  have HE := Lib.hid (And.intro (show Sg ptC 7 w2 (.slice (some ⟨w1.heap.size, 0, none⟩) 1 1) ps by rw [← HPE.out.1]; exact hsg) (K1.out.1.then hf))
  clear hsg hf
  go_wp2
  go_ret
  exact ⟨⟨_, rfl, HE.out.1, fun j hj => by have h1 := K1.out.1.size; simp [Value.ownBlock] at hj; omega⟩, HE.out.2⟩
 ·obtain ⟨ps, hps⟩ : ∃ ps, ps = partsOf ⟨5, p, d, v, ow, t⟩ := ⟨_, rfl⟩
  have hpe : ([⟨7, [], [], [], 0, 0, false⟩] : List Pt).map (fillP p) = ps := by rw [hps]; unfold partsOf; rw [if_pos hm]; simp [fillP, keptAt]
  rw [← hps]
  have HPE := Lib.hid (And.intro hpe hp)
  clear hpe hps hp hm
  go_enter Tryz.func30, Tryz.ntmps30
  go_wp2_with fail
  refine (HM.out _).mono ?_
  rintro e w1 ⟨rfl, hf⟩
  have K1 := Lib.hid (And.intro (HF0.out.1.then hf) (hf.heap HF0.out.2 id))
  clear hf
  obtain ⟨o0, o1, o2, o3, o4, o5⟩ := box6 K1.out.2
  have HC := Lib.hid (of_step (q := p) ([⟨7, [], [], [], 0, 0, false⟩] : List Pt) w.heap.size w1 o1 (Array.getElem?_eq_some_iff.1 K1.out.2).1 HPE.out.2 (by simp))
  go_wp2_with fail
  refine HC.out.mono ?_
  rintro e w2 ⟨rfl, hsg, hf⟩
  have HE := Lib.hid (And.intro (show Sg ptC 7 w2 (.slice (some ⟨w1.heap.size, 0, none⟩) 1 1) ps by rw [← HPE.out.1]; exact hsg) (K1.out.1.then hf))
  clear hsg hf
  go_wp2
  go_ret
  exact ⟨⟨_, rfl, HE.out.1, fun j hj => by have h1 := K1.out.1.size; simp [Value.ownBlock] at hj; omega⟩, HE.out.2⟩
 ·obtain ⟨ps, hps⟩ : ∃ ps, ps = partsOf ⟨6, p, d, v, ow, t⟩ := ⟨_, rfl⟩
  have hpe : ([⟨8, [], [], [], 0, 0, false⟩, ⟨9, [], [], [], 0, 0, false⟩] : List Pt).map (fillP p) = ps := by rw [hps]; unfold partsOf; rw [if_pos hm]; simp [fillP, keptAt]
  rw [← hps]
  have HPE := Lib.hid (And.intro hpe hp)
  clear hpe hps hp hm
  go_enter Tryz.func30, Tryz.ntmps30
  go_wp2_with fail
  refine (HM.out _).mono ?_
  rintro e w1 ⟨rfl, hf⟩
  have K1 := Lib.hid (And.intro (HF0.out.1.then hf) (hf.heap HF0.out.2 id))
  clear hf
  obtain ⟨o0, o1, o2, o3, o4, o5⟩ := box6 K1.out.2
  have HC := Lib.hid (of_step (q := p) ([⟨8, [], [], [], 0, 0, false⟩, ⟨9, [], [], [], 0, 0, false⟩] : List Pt) w.heap.size w1 o1 (Array.getElem?_eq_some_iff.1 K1.out.2).1 HPE.out.2 (by simp))
  go_wp2_with fail
  refine HC.out.mono ?_
  rintro e w2 ⟨rfl, hsg, hf⟩
  have HE := Lib.hid (And.intro (show Sg ptC 7 w2 (.slice (some ⟨w1.heap.size, 0, none⟩) 2 2) ps by rw [← HPE.out.1]; exact hsg) (K1.out.1.then hf))
  clear hsg hf
  go_wp2
  go_ret
  exact ⟨⟨_, rfl, HE.out.1, fun j hj => by have h1 := K1.out.1.size; simp [Value.ownBlock] at hj; omega⟩, HE.out.2⟩
 obtain ⟨ps, hps⟩ : ∃ ps, ps = partsOf ⟨7, p, d, v, ow, t⟩ := ⟨_, rfl⟩
 have hpe : ([⟨8, [], [], [], 0, 0, false⟩, ⟨10, [], [], [], 0, ow, false⟩] : List Pt).map (fillP p) = ps := by rw [hps]; unfold partsOf; rw [if_pos hm]; simp [fillP, keptAt]
 rw [← hps]
 have HPE := Lib.hid (And.intro hpe hp)
 clear hpe hps hp hm
 go_enter Tryz.func30, Tryz.ntmps30
 go_wp2_with fail
 refine (HM.out _).mono ?_
 rintro e w1 ⟨rfl, hf⟩
 have K1 := Lib.hid (And.intro (HF0.out.1.then hf) (hf.heap HF0.out.2 id))
 clear hf
 obtain ⟨o0, o1, o2, o3, o4, o5⟩ := box6 K1.out.2
 have HC := Lib.hid (of_step (q := p) ([⟨8, [], [], [], 0, 0, false⟩, ⟨10, [], [], [], 0, ow, false⟩] : List Pt) w.heap.size w1 o1 (Array.getElem?_eq_some_iff.1 K1.out.2).1 HPE.out.2 (by simp))
 go_wp2_with fail
 refine HC.out.mono ?_
 rintro e w2 ⟨rfl, hsg, hf⟩
 have HE := Lib.hid (And.intro (show Sg ptC 7 w2 (.slice (some ⟨w1.heap.size, 0, none⟩) 2 2) ps by rw [← HPE.out.1]; exact hsg) (K1.out.1.then hf))
 clear hsg hf
 go_wp2
 go_ret
 exact ⟨⟨_, rfl, HE.out.1, fun j hj => by have h1 := K1.out.1.size; simp [Value.ownBlock] at hj; omega⟩, HE.out.2⟩
abbrev TPC : TypeId := 77
abbrev TPCL : TypeId := 65
theorem Tryz.infoPC : (Tryz.prog.info? TPC).map (fun i => (i.zero, i.size, i.bytes)) = some (some (.agg #[.int .i64 0, .int .i64 0, .string ⟨#[]⟩, .string ⟨#[]⟩, .string ⟨#[]⟩, .int .i64 0, .int .i64 0, .bool false]), 8, 88) := by kernel_rfl
abbrev Opc (lo : Nat) (w : World) (v : Value) (l : List (Nat × Pt)) : Prop := OwG TPC pcC 8 lo w v l
structure ChP (lo : Nat) (w : World) (v : Value) (l : List (Nat × Pt)) (v' : Value) (w' : World) : Prop where
 own : Opc lo w' v' l
 fp : Fp (fun k => v.ownBlock = some k) w w'
 new : ∀ j, v'.ownBlock = some j → v.ownBlock = some j ∨ w.heap.size ≤ j
theorem Sg.keep1 {α : Type} {enc : α → List Value} {k : Nat} {w w' : World} {v : Value} {l : List α} (h : Sg enc k w v l) {S : Nat → Prop} (f : Fp S w w') (hS : ∀ j, v.ownBlock = some j → ¬ S j) : Sg enc k w' v l := by
 obtain ⟨ao, cap, rfl, h3⟩ := h.ex
 refine ⟨ao, cap, rfl, ?_⟩
 rcases h3 with h3 | ⟨g, o, rfl, hc⟩
 ·exact .inl h3
 exact .inr ⟨g, o, rfl, fun i hi => (hc i hi).keep f (hS g rfl)⟩
theorem app_pc (w : World) (lo : Nat) (v : Value) (l : List (Nat × Pt)) (x : Nat × Pt) (ty : TypeId) (ho : Opc lo w v l) (hn : l.length ≤ 50000) (hlo : lo ≤ w.heap.size) :
  ∃ v' w', (Builtin.append_ #[TPCL, TPCL] ty #[v, .slice (some ⟨w.heap.size, 0, none⟩) 1 1]).run Tryz.prog (w.alloc (.cells (pcC x).toArray TPC)) = .ok v' w' ∧ ChP lo (w.alloc (.cells (pcC x).toArray TPC)) v (l ++ [x]) v' w' := by
 have hf := fp_alloc w (.cells (pcC x).toArray TPC)
 have hb := heap_alloc_new w (.cells (pcC x).toArray TPC)
 generalize (w.alloc (.cells (pcC x).toArray TPC)) = W at *
 obtain ⟨v', w', hr, k1, k2, k3⟩ := app_ownG (enc := pcC) pcC_len pcC_one (SL := TPCL) (T := TPC) Tryz.underlying65 Tryz.infoPC rfl (by decide) (by decide) W lo v l [x] ty ⟨w.heap.size, 0, none⟩ 1 1 (ho.non hf) rfl (fun i hi j u hu => by
  have hi0 : i = 0 := by simp at hi; omega
  subst hi0
  rw [Addr.add_lit, cell_of_row _ _ _ _ _ _ hb]
  rw [show 0 + (0 * 8 + j) = j from by omega]
  simpa using hu) (by simp; omega) (Nat.le_trans hlo hf.size)
 exact ⟨v', w', hr, k1, (Fp.refl _ _).grown k2 (fun k hk => .inl hk), k3⟩
theorem pieces_take (l : List Opn) (k : Nat) (hk : k < l.length) : piecesFrom 0 (l.take (k + 1)) = piecesFrom 0 (l.take k) ++ (partsOf l[k]).map (fun p => (k, p)) := by
 rw [take_one hk, pieces_app]
 congr 1
 have : (l.take k).length = k := by rw [List.length_take]; omega
 rw [this]; simp [piecesFrom]
theorem parts_le2 (o : Opn) : (partsOf o).length ≤ 2 := by
 unfold partsOf
 repeat' split
 all_goals simp
theorem pieces_few : ∀ (l : List Opn) (i : Nat), (piecesFrom i l).length ≤ 2 * l.length
 | [], _ => by simp [piecesFrom]
 | o :: l, i => by
  unfold piecesFrom
  rw [List.length_append, List.length_map, List.length_cons]
  have := pieces_few l (i + 1)
  have h2 := parts_le2 o
  omega
set_option maxHeartbeats 16000000 in
theorem mOf_c (lv : Value) (l : List Opn) (w : World) (hl : Ops w lv l) (hls : OSp l) (hln : l.length ≤ 1000000) :
  Calls Tryz.prog 46 #[lv] w fun e w' => (∃ v', e = .returned v' ∧ Opc w.heap.size w' v' (piecesOf l)) ∧ Fp Non w w' := by
 have hmm := mMay_c lv l w hl hls hln
 obtain ⟨al, cl, rfl⟩ := hl.shape
 obtain ⟨n, hn⟩ : ∃ n, n = l.length := ⟨_, rfl⟩
 obtain ⟨bm, hbm⟩ : ∃ b, mayL l = b := ⟨_, rfl⟩
 rw [hbm, ← hn] at hmm
 have hpo : piecesOf l = if bm = true then piecesFrom 0 l else [] := by unfold piecesOf; rw [hbm]
 have HM := Lib.hid (And.intro hmm (And.intro hbm hpo))
 have HN := Lib.hid (And.intro hn (And.intro hl hls))
 rw [← hn]
 clear hl hls hln hmm hbm hpo hn
 go_enter Tryz.func46, Tryz.ntmps46
 go_wp2_with fail
 refine HM.out.1.mono ?_
 rintro e w1 ⟨rfl, hf⟩
 have F1 := Lib.hid hf
 clear hf
 cases bm with
 | false =>
  have hp := HM.out.2.2
  simp only [Bool.false_eq_true, if_false] at hp
  have HP := Lib.hid hp
  clear hp
  go_wp2
  go_ret
  exact ⟨⟨_, rfl, by rw [HP.out]; exact OwG.nil _ _⟩, F1.out⟩
 | true => ?_
 have hp := HM.out.2.2
 simp only [if_true] at hp
 have HP := Lib.hid hp
 have hnb : n ≤ 8 := by rw [HN.out.1]; exact ((mayL_iff l).1 HM.out.2.1).1.2
 have H0 : Hid (Opc w.heap.size w1 (.slice none 0 0) (piecesFrom 0 (l.take 0)) ∧ Fp Non w w1) := ⟨by rw [List.take_zero]; exact OwG.nil _ _, F1.out⟩
 clear hp F1
 go_wp2_with fail
 go_loopw [3, 13] (fun v i wr => ∃ k : Nat, k ≤ n ∧ i = .int .i64 k ∧ Hid (Opc w.heap.size wr v (piecesFrom 0 (l.take k)) ∧ Fp Non w wr)) (fun _ i _ => n - (RowKit.intOf i).toNat)
 case atStart => exact ⟨0, Nat.zero_le _, rfl, H0⟩
 clear H0
 obtain ⟨k, hk, rfl, hR⟩ := hrel
 rename_i wr _
 by_cases hlt : k < n
 ·have hkl : k < l.length := by rw [← HN.out.1]; exact hlt
  obtain ⟨g, og, cap', e9, hcell⟩ := (HN.out.2.1.non hR.out.2).at (by omega)
  injection e9 with e1 e2 e3
  subst e1 e3
  clear e2
  have hop := hcell k hkl
  have hsp := HN.out.2.2 _ (List.getElem_mem hkl)
  have hpt := pieces_take l k hkl
  have hpl : (piecesFrom 0 (l.take k)).length ≤ 16 := by have := pieces_few (l.take k) 0; rw [List.length_take] at this; omega
  obtain ⟨x, hx⟩ : ∃ x, l[k] = x := ⟨_, rfl⟩
  rw [hx] at hop hsp hpt
  have hof := fun W => Of_f x W hsp
  have hp2 := parts_le2 x
  obtain ⟨ps, hps⟩ : ∃ ps, partsOf x = ps := ⟨_, rfl⟩
  rw [hps] at hof hpt hp2
  obtain ⟨kk, op, od, ov, oo, ot⟩ := x
  have c0 := hop.c0; have c1 := hop.c1; have c2 := hop.c2; have c3 := hop.c3; have c4 := hop.c4; have c5 := hop.c5
  unfold opV strV at hof
  unfold strV at c1 c2
  simp only at c0 c1 c2 c3 c4 c5 hof
  have HOF := Lib.hid (And.intro hof (And.intro hpt (And.intro hp2 hpl)))
  have HL := Lib.hid hlt
  have HF := Lib.hid hR.out
  have q3 : ((k : Int) < (n : Int)) = True := eq_true (by omega)
  have q4 : (k < n) = True := eq_true hlt
  have fb := fp_alloc wr (.cells #[.int .i64 kk, .string (B op), .string (B od), .int .i64 ov, .int .i64 oo, .bool ot] TO_)
  have FB := Lib.hid (HF.out.2.then fb)
  have FB2 := Lib.hid fb
  clear hcell hop hsp hpt hpl hx hof hp2 hps hlt hkl hR fb
  go_wp2_with fail
  refine (HOF.out.1 _).mono ?_
  rintro e w5 ⟨⟨v5, rfl, hsg, hnew⟩, hf⟩
  obtain ⟨a5, c5', rfl⟩ := hsg.shape
  obtain ⟨m, hm⟩ : ∃ m, m = ps.length := ⟨_, rfl⟩
  rw [← hm] at hsg ⊢
  have hmb : m ≤ 2 := by rw [hm]; exact HOF.out.2.2.1
  have H5 : Hid (Opc w.heap.size w5 u3 (piecesFrom 0 (l.take k) ++ (ps.take 0).map (fun p => (k, p))) ∧ Fp Non w w5 ∧ Sg ptC 7 w5 (.slice a5 m c5') ps ∧ ∀ j, u3.ownBlock = some j → (Value.slice a5 m c5').ownBlock ≠ some j) := ⟨by rw [List.take_zero, List.map_nil, List.append_nil]; exact HF.out.1.non (FB2.out.then hf), FB.out.then hf, hsg, fun j hj e => by
   have h1 := hnew j (by rw [← hm]; exact e)
   have h2 := (HF.out.1.lt j hj).2
   exact absurd (Nat.lt_of_lt_of_le h2 (Nat.le_trans FB2.out.size h1)) (Nat.lt_irrefl _)⟩
  have HM5 := Lib.hid hm
  clear hsg hf hm hnew
  go_wp2_with fail
  go_loopw [3, 21] (fun v i wr => ∃ j : Nat, j ≤ m ∧ i = .int .i64 j ∧ Hid (Opc w.heap.size wr v (piecesFrom 0 (l.take k) ++ (ps.take j).map (fun p => (k, p))) ∧ Fp Non w wr ∧ Sg ptC 7 wr (.slice a5 m c5') ps ∧ ∀ j, v.ownBlock = some j → (Value.slice a5 m c5').ownBlock ≠ some j)) (fun _ i _ => m - (RowKit.intOf i).toNat)
  case atStart => exact ⟨0, Nat.zero_le _, rfl, H5⟩
  clear H5
  obtain ⟨j, hj, rfl, hR⟩ := hrel
  rename World => wr2
  by_cases hlt : j < m
  ·have hjl : j < ps.length := by rw [← HM5.out]; exact hlt
   obtain ⟨g5, o5, cap5, e9, hcell⟩ := hR.out.2.2.1.at (by omega)
   injection e9 with e1 e2 e3
   subst e1 e3
   clear e2
   have hel := hcell j hjl
   have htk : (ps.take (j + 1)).map (fun p => (k, p)) = (ps.take j).map (fun p => (k, p)) ++ [(k, ps[j])] := by rw [List.take_succ_eq_append_getElem hjl, List.map_append]; rfl
   obtain ⟨y, hy⟩ : ∃ y, ps[j] = y := ⟨_, rfl⟩
   rw [hy] at hel htk
   obtain ⟨yk, yd, yp, ya, yv, yo, yt⟩ := y
   have d0 := hel.get 0 _ rfl
   have d1 := hel.get 1 _ rfl
   have d2 := hel.get 2 _ rfl
   have d3 := hel.get 3 _ rfl
   have d4 := hel.get 4 _ rfl
   have d5 := hel.get 5 _ rfl
   have d6 := hel.get 6 _ rfl
   rw [Nat.add_zero] at d0
   unfold strV at d1 d2 d3
   simp only at d0 d1 d2 d3 d4 d5 d6
   have q5 : ((j : Int) < (m : Int)) = True := eq_true (by omega)
   have q6 : (j < m) = True := eq_true hlt
   obtain ⟨p3, n3, c3, rfl⟩ : ∃ p3 n3 c3, u3 = .slice p3 n3 c3 := by
    rcases hR.out.1.2 with ⟨h, _⟩ | ⟨_, _, _, h, _⟩
    ·exact ⟨_, _, _, h⟩
    exact ⟨_, _, _, h⟩
   have fb := fp_alloc wr2 (.cells #[.int .i64 yk, .string (B yd), .string (B yp), .string (B ya), .int .i64 yv, .int .i64 yo, .bool yt] TP)
   have hap := app_pc (wr2.alloc (.cells #[.int .i64 yk, .string (B yd), .string (B yp), .string (B ya), .int .i64 yv, .int .i64 yo, .bool yt] TP)) w.heap.size (.slice p3 n3 c3) (piecesFrom 0 (l.take k) ++ (ps.take j).map (fun p => (k, p))) (k, ⟨yk, yd, yp, ya, yv, yo, yt⟩) TPCL (hR.out.1.non fb) (by rw [List.length_append, List.length_map, List.length_take]; have := HOF.out.2.2.2; omega) (Nat.le_trans hR.out.2.1.size fb.size)
   rw [show (pcC (k, ⟨yk, yd, yp, ya, yv, yo, yt⟩)).toArray = #[.int .i64 (k : Int), .int .i64 yk, .string (B yd), .string (B yp), .string (B ya), .int .i64 yv, .int .i64 yo, .bool yt] from rfl] at hap
   rw [show (wr2.alloc (.cells #[.int .i64 yk, .string (B yd), .string (B yp), .string (B ya), .int .i64 yv, .int .i64 yo, .bool yt] TP)).heap.size = wr2.heap.size + 1 from by simp] at hap
   have HAP := Lib.hid hap
   have HTK := Lib.hid htk
   have HL2 := Lib.hid hlt
   have FB3 := Lib.hid (fb.then (fp_alloc (wr2.alloc (.cells #[.int .i64 yk, .string (B yd), .string (B yp), .string (B ya), .int .i64 yv, .int .i64 yo, .bool yt] TP)) (.cells #[.int .i64 (k : Int), .int .i64 yk, .string (B yd), .string (B yp), .string (B ya), .int .i64 yv, .int .i64 yo, .bool yt] TPC)))
   clear hcell hel htk hy hap fb hlt hjl
   go_wp2_with (at_builtin; go_must (refine wpList_app rfl _ _ _ _ rfl _ _ rfl rfl _ HAP.out ?_))
   intro v7 w7 hc
   have hf7 := (hR.out.2.1.then FB3.out).trans hc.fp (fun i hi => .inr (hR.out.1.lt i hi).1)
   have hs7 : Sg ptC 7 w7 (.slice (some ⟨g5, o5, none⟩) m c5') ps := (hR.out.2.2.1.non FB3.out).keep1 hc.fp (fun i hi e => hR.out.2.2.2 i e hi)
   have hfr7 : ∀ i, v7.ownBlock = some i → (Value.slice (some ⟨g5, o5, none⟩) m c5').ownBlock ≠ some i := fun i hi e => by
    rcases hc.new i hi with h | h
    ·exact hR.out.2.2.2 i h e
    have h1 : g5 < wr2.heap.size := World.block_lt_of_cell? wr2 _ d0
    have h2 : g5 = i := by simpa [Value.ownBlock] using e
    have h3 := FB3.out.size
    omega
   have hM : Hid (Opc w.heap.size w7 v7 (piecesFrom 0 (l.take k) ++ (ps.take (j + 1)).map (fun p => (k, p))) ∧ Fp Non w w7 ∧ Sg ptC 7 w7 (.slice (some ⟨g5, o5, none⟩) m c5') ps ∧ ∀ j, v7.ownBlock = some j → (Value.slice (some ⟨g5, o5, none⟩) m c5').ownBlock ≠ some j) := ⟨by rw [HTK.out, List.map_take]; exact hc.own, hf7, hs7, hfr7⟩
   clear hc hf7 hs7 hfr7 d0 d1 d2 d3 d4 d5 d6
   have hj1 := HL2.out
   go_wp2
   go_roundw
   case rel => exact ⟨j + 1, by omega, by go_num, hM⟩
   case measure => simp [RowKit.intOf]; omega
  have hje : j = m := by omega
  subst hje
  have q5 : ((j : Int) < (j : Int)) = False := eq_false (by omega)
  have hO := hR.out.1
  have htl : ps.take j = ps := by rw [HM5.out, List.take_length]
  rw [htl, ← HOF.out.2.1] at hO
  have hM : Hid (Opc w.heap.size wr2 u3 (piecesFrom 0 (l.take (k + 1))) ∧ Fp Non w wr2) := ⟨hO, hR.out.2.1⟩
  clear hO htl hlt hj hR
  have hj1 := HL.out
  go_wp2
  go_roundw
  case rel => exact ⟨k + 1, by omega, by go_num, hM⟩
  case measure => simp [RowKit.intOf]; omega
 have hke : k = n := by omega
 subst hke
 have q3 : ((k : Int) < (k : Int)) = False := eq_false (by omega)
 have hO := hR.out.1
 have htl : l.take k = l := by rw [HN.out.1, List.take_length]
 rw [htl, ← HP.out] at hO
 have H9 := Lib.hid (And.intro hO hR.out.2)
 clear hO htl hlt hk hR
 go_wp2
 go_ret
 exact ⟨⟨_, rfl, H9.out.1⟩, H9.out.2⟩
end Go.Proofs.YtphoglepiegeiaaGreatDoor
namespace Go.Proofs.YtphoglepiegeiaaGreatDoor
set_option maxRecDepth 20000
namespace Pm
def AscW (l : List Nd) : Prop := ∀ i j (hi : i < l.length) (hj : j < l.length), i < j → lt l[j].path l[i].path = false
theorem AscW.tail {a : Nd} {l : List Nd} (h : AscW (a :: l)) : AscW l := fun i j hi hj hij => h (i + 1) (j + 1) (by simp; omega) (by simp; omega) (by omega)
theorem AscW.head {a : Nd} {l : List Nd} (h : AscW (a :: l)) {b : Nd} (hb : b ∈ l) : lt b.path a.path = false := by
 obtain ⟨i, hi, rfl⟩ := List.getElem_of_mem hb
 exact h 0 (i + 1) (by simp) (by simp; omega) (by omega)
theorem StR.next {s : St} (h : StR s) {t : Tu} (ht : t ∈ s.turns) : t.next ≠ 0 := by
 have := h.tfit t ht
 unfold Pm.tfit at this
 simp only [Bool.and_eq_true, decide_eq_true_eq] at this
 omega
end Pm
namespace Pm
def hd0 : List Nd := [⟨[47], [], 0, 0, 0⟩]
theorem hd0_tr : Tr hd0 := (show Tree hd0 from ⟨by decide, by decide, rfl, rfl, by decide, fun i hi => absurd hi (by simp [hd0]), fun i hi hp => absurd hi (by simp [hd0]; omega)⟩).tr
end Pm
namespace Pm
def hl0 : List Nd := [⟨[47], [], 0, 3, 0⟩]
def hlP0 : Pt := ⟨1, [47], [47, 97], [], 0, 0, false⟩
def hlP1 : Pt := ⟨2, [47, 97], [47, 97, 47, 98], [120], 0, 0, false⟩
def hlS : St := ⟨[⟨[47], [], 0, 0, 0⟩, ⟨[47, 97], [], 0, 0, 0⟩], [⟨[47], 3⟩]⟩
end Pm
end Go.Proofs.YtphoglepiegeiaaGreatDoor
