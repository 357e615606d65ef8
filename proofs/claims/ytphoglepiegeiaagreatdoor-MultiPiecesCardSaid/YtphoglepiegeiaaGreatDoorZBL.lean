/- A text of this proof. -/
import Derived.Test.YtphoglepiegeiaaGreatDoorZBK
set_option linter.unusedSimpArgs false
set_option linter.unusedVariables false
namespace Go.Proofs.YtphoglepiegeiaaGreatDoor
set_option maxRecDepth 20000
open Go.RowKit Pm
theorem rows_turn (l : List Nd) (i : Nat) (hi : i < l.length) (v : Int) (rest : List Value) : ((rows l ++ rest).set (i * 5 + 3) (.int .i64 v)) = rows (l.set i { l[i] with turn := v }) ++ rest := by
 induction l generalizing i with
 | nil => simp at hi
 | cons a l ih =>
  cases i with
  | zero => rw [List.set_cons_zero, rows_cons, rows_cons]; simp [ndC]
  | succ i => ?_
  rw [List.set_cons_succ, rows_cons, rows_cons, List.append_assoc, List.append_assoc]
  simp only [List.getElem_cons_succ]
  rw [← ih i (by simpa using hi)]
  simp only [show (i + 1) * 5 = 5 + i * 5 from by omega, show ∀ j, 5 + i * 5 + j = 5 + (i * 5 + j) from fun j => by omega]
  rw [List.set_append_right _ _ (by rw [ndC_len]; omega), ndC_len, Nat.add_sub_cancel_left]
theorem Nr.turn {w : World} {G cap : Nat} {l : List Nd} (h : Nr w G cap l) (i : Nat) (hi : i < l.length) (v : Int) :
  Nr (w.setCell ⟨G, i * 5 + 3, none⟩ (.int .i64 v)) G cap (l.set i { l[i] with turn := v }) := by
 obtain ⟨rest, hg, hrl⟩ := h.ex
 have h1 := heap_setCell_same w G (i * 5 + 3) _ TN (.int .i64 v) hg
 refine ⟨⟨rest, ?_, by rw [List.length_set]; exact hrl⟩, by rw [List.length_set]; exact h.room, h.most⟩
 rw [h1, ← rows_turn l i hi v rest]
 simp [List.setIfInBounds_toArray]
theorem numbered_len {p q : Bs} {t : Int} (h : numbered p t = some q) : q.length ≤ 12 := by
 unfold numbered at h; split at h
 ·rename_i k
  rw [← Option.some.inj h]; exact (isPart_len k.2.2).2
 cases h
set_option maxHeartbeats 2000000 in
theorem created_c (o : Opn) (u : Bs) (turn : Int) (w : World) (ht : Tab w) (hu : u.length ≤ 100) (hq : (last o.path).length ≤ 100) (hp : o.path.length ≤ 100) (h0 : 0 ≤ turn) (h1 : turn ≤ 10000) :
  Calls Tryz.prog 154 #[opV o, .string (B u), .int .i64 turn] w fun e w' => e = .returned (.tuple #[.string (B ((named o u turn).getD [])), .bool (named o u turn).isSome]) ∧ Fp Non w w' := by
 obtain ⟨kk, p, d, v, ow, t⟩ := o
 unfold opV strV named
 simp only at hq hp ⊢
 have hf : ∀ o, Fp Non w (w.alloc o) := fun o => (Fp.refl Non w).alloc o
 have HF := Lib.hid hf
 cases t with
 | false =>
  simp only [Bool.false_eq_true, if_false]
  clear hf hq hp ht hu h0 h1
  go_enter Tryz.func154, Tryz.ntmps154
  go_wp2
  go_ret2
  exact ⟨rfl, HF.out _⟩
 | true => ?_
 simp only [if_true]
 obtain ⟨q, hq0⟩ : ∃ q, last p = q := ⟨_, rfl⟩
 have hla := fun w => Last_g p w (sz_of hp (by omega))
 rw [hq0] at hq hla ⊢
 obtain ⟨nn, hnn⟩ : ∃ nn, numbered q turn = nn := ⟨_, rfl⟩
 have hnu := fun w (ht : Tab w) => Numbered_c q turn w (sz_of hq (by omega)) (by omega) (by omega) (Or.inr ht.is)
 rw [hnn] at hnu ⊢
 have HL := Lib.hid hla
 have HN := Lib.hid hnu
 have HT := Lib.hid ht
 have hnl : ∀ q', nn = some q' → q'.length ≤ 12 := fun q' e => numbered_len (by rw [hnn, e])
 cases nn with
 | none =>
  clear hf hq hp hla hnu hnn hnl ht hu h0 hq0
  show Calls _ _ _ _ (fun e w' => e = .returned (.tuple #[.string (B []), .bool false]) ∧ _)
  go_enter Tryz.func154, Tryz.ntmps154
  go_wp2_with fail
  refine (HL.out _).mono ?_
  rintro e w1 ⟨rfl, g1⟩
  have F1 := Lib.hid ((HF.out _).then g1.fp)
  clear g1
  go_wp2_with fail
  refine (HN.out _ (HT.out.non F1.out)).mono ?_
  rintro e w2 ⟨rfl, g2⟩
  have F2 := Lib.hid (F1.out.then (Gr.fp g2))
  clear g2
  go_wp2
  go_ret2
  exact ⟨rfl, F2.out⟩
 | some q' => ?_
 have hjo := fun w => Join_g u q' w (sz_of hu (by omega)) (sz_of (hnl _ rfl) (by omega))
 have HJ := Lib.hid hjo
 clear hf hq hp hla hnu hnn hnl hjo ht hu h0 hq0
 show Calls _ _ _ _ (fun e w' => e = .returned (.tuple #[.string (B ((join u q').getD [])), .bool (join u q').isSome]) ∧ _)
 generalize (join u q').getD [] = r1 at *
 generalize (join u q').isSome = r2 at *
 go_enter Tryz.func154, Tryz.ntmps154
 go_wp2_with fail
 refine (HL.out _).mono ?_
 rintro e w1 ⟨rfl, g1⟩
 have F1 := Lib.hid ((HF.out _).then g1.fp)
 clear g1
 go_wp2_with fail
 refine (HN.out _ (HT.out.non F1.out)).mono ?_
 rintro e w2 ⟨rfl, g2⟩
 have F2 := Lib.hid (F1.out.then (Gr.fp g2))
 clear g2
 go_wp2_with fail
 refine (HJ.out _).mono ?_
 rintro e w3 ⟨rfl, g3⟩
 have F3 := Lib.hid (F2.out.then (Gr.fp g3))
 clear g3
 go_wp2
 go_ret2
 exact ⟨rfl, F3.out⟩
end Go.Proofs.YtphoglepiegeiaaGreatDoor
