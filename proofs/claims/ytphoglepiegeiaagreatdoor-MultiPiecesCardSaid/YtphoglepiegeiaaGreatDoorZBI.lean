/- A text of this proof. -/
import Derived.Laws.Externs
import Derived.Lib.AppendZerosOnto
import Derived.Lib.Overlaps
import Derived.Lib.SliceRun
import Derived.Test.YtphoglepiegeiaaGreatDoorZBE
import Derived.Test.YtphoglepiegeiaaGreatDoorZBF
import Derived.Test.YtphoglepiegeiaaGreatDoorZBG
import Derived.Test.YtphoglepiegeiaaGreatDoorZBH
set_option linter.unusedSimpArgs false
set_option linter.unusedVariables false
namespace Go.Proofs.YtphoglepiegeiaaGreatDoor
set_option maxRecDepth 20000
namespace Pm
def mayL (l : List Opn) : Bool := decide (1 ≤ l.length ∧ l.length ≤ 8) && l.all may
def partsL (l : List Opn) : List Pt := l.flatMap partsOf
def piecesFrom : Nat → List Opn → List (Nat × Pt)
 | _, [] => []
 | i, o :: l => (partsOf o).map (fun p => (i, p)) ++ piecesFrom (i + 1) l
def piecesOf (l : List Opn) : List (Nat × Pt) := if mayL l = true then piecesFrom 0 l else []
theorem pieces_snd (i : Nat) (l : List Opn) : (piecesFrom i l).map Prod.snd = partsL l := by
 induction l generalizing i with
 | nil => rfl
 | cons o l ih => unfold piecesFrom partsL; rw [List.map_append, ih, List.map_map, List.flatMap_cons, show (Prod.snd ∘ fun p : Pt => (i, p)) = id from rfl, List.map_id]; rfl
theorem pieces_len (i : Nat) (l : List Opn) : (piecesFrom i l).length = (partsL l).length := by rw [← pieces_snd i l, List.length_map]
theorem pieces_app (i : Nat) (a b : List Opn) : piecesFrom i (a ++ b) = piecesFrom i a ++ piecesFrom (i + a.length) b := by
 induction a generalizing i with
 | nil => rfl
 | cons o a ih => simp only [List.cons_append, piecesFrom, ih, List.append_assoc, List.length_cons]; rw [show i + 1 + a.length = i + (a.length + 1) from by omega]
theorem pieces_fst (i : Nat) (l : List Opn) : ∀ q ∈ piecesFrom i l, i ≤ q.1 ∧ q.1 < i + l.length ∧ ∃ o ∈ l, q.2 ∈ partsOf o := by
 induction l generalizing i with
 | nil => intro q hq; simp [piecesFrom] at hq
 | cons o l ih =>
  intro q hq
  unfold piecesFrom at hq
  rw [List.length_cons]
  rcases List.mem_append.1 hq with h | h
  ·obtain ⟨p, hp, rfl⟩ := List.mem_map.1 h
   exact ⟨Nat.le_refl _, by simp only; omega, o, List.mem_cons_self .., hp⟩
  obtain ⟨h1, h2, o', h3, h4⟩ := ih (i + 1) q h
  exact ⟨by omega, by omega, o', List.mem_cons_of_mem _ h3, h4⟩
theorem pieces_rise (i : Nat) (l : List Opn) : (piecesFrom i l).Pairwise (fun a b => a.1 ≤ b.1) := by
 induction l generalizing i with
 | nil => exact List.Pairwise.nil
 | cons o l ih =>
  unfold piecesFrom
  rw [List.pairwise_append]
  refine ⟨?_, ih (i + 1), fun a ha b hb => ?_⟩
  ·rw [List.pairwise_map]; exact List.pairwise_of_forall (fun _ _ => Nat.le_refl i)
  obtain ⟨p, _, rfl⟩ := List.mem_map.1 ha
  have := (pieces_fst (i + 1) l b hb).1
  simp only; omega
inductive RunO (t : List Nd) (l : List Opn) : Nat → List Nd → List Res → Prop where
 | zero : RunO t l 0 t []
 | succ {k : Nat} {now x : List Nd} {rs : List Res} {r : Res} (h : RunO t l k now rs) (hk : k < l.length) (ha : apply now l[k] = (x, r)) (h0 : r.err = 0) : RunO t l (k + 1) x (rs ++ [r])
theorem RunO.det {s : List Nd} {ps : List Opn} {k : Nat} {a b : List Nd} {r q : List Res} (h : RunO s ps k a r) (g : RunO s ps k b q) : a = b ∧ r = q := by
 induction h generalizing b q with
 | zero => cases g with | zero => exact ⟨rfl, rfl⟩
 | succ h hk ha h0 ih =>
  cases g with
  | succ g hk' ha' h0' => ?_
  obtain ⟨rfl, rfl⟩ := ih g
  rw [ha] at ha'
  injection ha' with e1 e2
  subst e1 e2
  exact ⟨rfl, rfl⟩
theorem RunO.len {s : List Nd} {ps : List Opn} {k : Nat} {a : List Nd} {r : List Res} (h : RunO s ps k a r) : r.length = k := by
 induction h with
 | zero => rfl
 | succ h hk ha h0 ih => rw [List.length_append, ih]; rfl
theorem RunO.back {s : List Nd} {ps : List Opn} {k : Nat} {a : List Nd} {r : List Res} (h : RunO s ps k a r) {j : Nat} (hj : j < k) : ∃ now x rs q, RunO s ps j now rs ∧ ∃ hj : j < ps.length, ∃ hr : j < r.length, apply now ps[j] = (x, q) ∧ q.err = 0 ∧ r[j] = q := by
 induction h with
 | zero => omega
 | @succ k now x rs r h hk ha h0 ih =>
  have hl := h.len
  by_cases e : j = k
  ·subst e
   exact ⟨now, x, rs, r, h, hk, by rw [List.length_append]; simp; omega, ha, h0, by rw [List.getElem_append_right (by omega)]; simp⟩
  obtain ⟨now', x', rs', q, h1, h2, h3, h4, h5, h6⟩ := ih (by omega)
  exact ⟨now', x', rs', q, h1, h2, by rw [List.length_append]; omega, h4, h5, by rw [List.getElem_append_left h3]; exact h6⟩
theorem perform_len (l : List Nd) (o : Opn) : (perform l o).1.length ≤ l.length + 1 := by
 unfold perform
 split
 ·unfold create
  simp only
  split
  ·simp
  split
  ·simp
  split
  ·simp
  split
  ·simp
  split
  ·simp
  rw [ins_length]
  split <;> simp
 split
 ·simp
 split
 ·simp
 unfold doit
 split
 ·split
  ·have := List.length_eraseIdx_le l (place l o.path); simp only; omega
  simp
 split
 ·split <;> simp
 split
 ·simp
 split
 ·simp
 split
 ·simp
 exact Nat.le_trans (List.length_filter_le _ _) (by omega)
theorem mayL_iff (l : List Opn) : mayL l = true ↔ (1 ≤ l.length ∧ l.length ≤ 8) ∧ ∀ o ∈ l, may o = true := by
 unfold mayL; rw [Bool.and_eq_true, decide_eq_true_eq, List.all_eq_true]
theorem RunO.tree {t : List Nd} {l : List Opn} (hT : Tr t) (hm : ∀ o ∈ l, may o = true) {k : Nat} {now : List Nd} {rs : List Res} (h : RunO t l k now rs) : Tr now ∧ now.length ≤ t.length + k := by
 induction h with
 | zero => exact ⟨hT, Nat.le_refl _⟩
 | @succ k now x rs r h hk ha h0 ih =>
  have hmo := hm _ (List.getElem_mem hk)
  rw [apply_yes ih.1 hmo] at ha
  have h1 := perform_tr ih.1 hmo
  have h2 := perform_len now l[k]
  rw [ha] at h1 h2
  exact ⟨h1, by simp only at h2; omega⟩
theorem partsL_app (a b : List Opn) : partsL (a ++ b) = partsL a ++ partsL b := by unfold partsL; rw [List.flatMap_append]
theorem partsL_one (o : Opn) : partsL [o] = partsOf o := by unfold partsL; simp
theorem take_one {l : List Opn} {k : Nat} (hk : k < l.length) : l.take (k + 1) = l.take k ++ [l[k]] := by rw [List.take_succ_eq_append_getElem hk]
theorem RunO.parts {t : List Nd} {l : List Opn} (hT : Tr t) (hm : ∀ o ∈ l, may o = true) (hl : t.length + l.length ≤ 512) {k : Nat} {now : List Nd} {rs : List Res} (h : RunO t l k now rs) :
  ∃ q, Runs (keep t) (partsL (l.take k)) (partsL (l.take k)).length (keep now) q := by
 induction h with
 | zero => exact ⟨[], .zero⟩
 | @succ k now x rs r h hk ha h0 ih =>
  obtain ⟨q, ih⟩ := ih
  have hmo := hm _ (List.getElem_mem hk)
  obtain ⟨h1, h2⟩ := h.tree hT hm
  rw [apply_yes h1 hmo] at ha
  have hd := parts_do h1 hmo (by omega)
  rw [ha] at hd
  rcases hd with ⟨_, q', hd⟩ | ⟨hne, _⟩
  ·rw [take_one hk, partsL_app, partsL_one, List.length_append]
   exact ⟨_, ih.app hd⟩
  exact absurd h0 hne
theorem pieces_all {t : List Nd} {l : List Opn} (hT : Tr t) (hm : ∀ o ∈ l, may o = true) (hl : t.length + l.length ≤ 512) {a : List Nd} {rs : List Res} (h : RunO t l l.length a rs) :
  ∃ q, Runs (keep t) (partsL l) (partsL l).length (keep a) q := by
 have := h.parts hT hm hl
 rwa [List.take_length] at this
theorem pieces_err {t : List Nd} {l : List Opn} (hT : Tr t) (hm : ∀ o ∈ l, may o = true) (hl : t.length + l.length ≤ 512) {i : Nat} {now : List Nd} {rs : List Res} (h : RunO t l i now rs) (hi : i < l.length) (he : (apply now l[i]).2.err ≠ 0) :
  ∃ k x q, ∃ hk : k < (partsL l).length, ∃ hk' : k < (piecesFrom 0 l).length, Runs (keep t) (partsL l) k x q ∧ (applyP x (partsL l)[k]).2.err = (apply now l[i]).2.err ∧ ((piecesFrom 0 l)[k]).1 = i := by
 obtain ⟨q, hr⟩ := h.parts hT hm hl
 have hmo := hm _ (List.getElem_mem hi)
 obtain ⟨h1, h2⟩ := h.tree hT hm
 rw [apply_yes h1 hmo] at he ⊢
 have hd := parts_do h1 hmo (by omega)
 rcases hd with ⟨h0, _⟩ | ⟨_, k, x, q', hk, hd, hde⟩
 ·exact absurd h0 he
 have hsplit : l = l.take i ++ ([l[i]] ++ l.drop (i + 1)) := by
  rw [← List.append_assoc, ← take_one hi, List.take_append_drop]
 have hp : partsL l = partsL (l.take i) ++ (partsOf l[i] ++ partsL (l.drop (i + 1))) := by
  conv => lhs; rw [hsplit]
  rw [partsL_app, partsL_app, partsL_one]
 have hq : piecesFrom 0 l = piecesFrom 0 (l.take i) ++ ((partsOf l[i]).map (fun p => (i, p)) ++ piecesFrom (i + 1) (l.drop (i + 1))) := by
  conv => lhs; rw [hsplit]
  rw [pieces_app, pieces_app]
  have : (l.take i).length = i := by rw [List.length_take]; omega
  rw [this]
  simp [piecesFrom]
 have hlen : (partsL (l.take i)).length + k < (partsL l).length := by rw [hp, List.length_append, List.length_append]; omega
 have hlen' : (partsL (l.take i)).length + k < (piecesFrom 0 l).length := by rw [pieces_len]; exact hlen
 refine ⟨(partsL (l.take i)).length + k, x, q ++ q', hlen, hlen', ?_, ?_, ?_⟩
 ·have := (hr.app hd).more (qs := partsL (l.drop (i + 1)))
  rw [List.append_assoc, ← hp] at this; exact this
 ·have e : (partsL l)[(partsL (l.take i)).length + k] = (partsOf l[i])[k] := by
   simp only [hp]
   rw [List.getElem_append_right (by omega)]
   simp only [Nat.add_sub_cancel_left]
   rw [List.getElem_append_left hk]
  rw [e]; exact hde
 simp only [hq]
 rw [List.getElem_append_right (by rw [pieces_len]; omega)]
 simp only [pieces_len, Nat.add_sub_cancel_left]
 rw [List.getElem_append_left (by rw [List.length_map]; exact hk), List.getElem_map]
end Pm
open Go.RowKit Pm
def Kp (P : World → Prop) (W : World) : Prop := ∀ W', Fp Non W W' → P W'
theorem Kp.later {P : World → Prop} {W W' : World} (h : Kp P W) (f : Fp Non W W') : Kp P W' := fun W2 g => h W2 (f.then g)
theorem Kp.now {P : World → Prop} {W : World} (h : Kp P W) : P W := h W (Fp.refl _ _)
theorem Kp.and {P Q : World → Prop} {W : World} (h : Kp P W) (k : Kp Q W) : Kp (fun W' => P W' ∧ Q W') W := fun W' f => ⟨h W' f, k W' f⟩
theorem Kp.fp {w W : World} (h : Fp Non w W) : Kp (fun W' => Fp Non w W') W := fun W' f => h.then f
theorem Kp.row {W : World} {b : Nat} {o : Obj} (h : W.heap[b]? = some o) : Kp (fun W' => W'.heap[b]? = some o) W := fun W' f => f.heap h id
theorem Kp.ns {W : World} {v : Value} {l : List Nd} (h : Ns W v l) : Kp (fun W' => Ns W' v l) W := fun W' f => h.non f
theorem Kp.nd {W : World} {g o : Nat} {x : Nd} (h : NdAt W g o x) : Kp (fun W' => NdAt W' g o x) W := fun W' f => h.keep f id
theorem Kp.tab {W : World} (h : Tab W) : Kp Tab W := fun W' f => h.non f
theorem fp_alloc (W : World) (o : Obj) : Fp Non W (W.alloc o) := (Fp.refl Non W).alloc o
theorem few_sp {l : List Nd} (h : l.length ≤ 1667 ∧ ∀ x ∈ l, x.path.length ≤ 5000 ∧ x.data.length ≤ 5000) : Sp l := fun x hx => by have := (h.2 x hx).1; omega
theorem tr_few {l : List Nd} (h : Tr l) : l.length ≤ 1000000 ∧ Sp l := ⟨by have := h.most; omega, fun x hx => by
 obtain ⟨ps, hs⟩ := h.valid hx
 obtain ⟨hP, e⟩ := (split_iff _ _).1 hs
 have := joinP_len hP
 rw [e] at this; omega⟩
set_option maxHeartbeats 400000 in
theorem upP_c (p : Bs) (w : World) (hl : p.length ≤ 1000000) :
  Calls Tryz.prog 77 #[.string (B p)] w fun e w' => e = .returned (.string (B (upB p))) ∧ Fp Non w w' := by
 have hpa := fun w => Parent_g p w (sz_of hl (by omega))
 cases h : parent p with
 | none =>
  rw [h] at hpa
  simp only [Option.getD_none, Option.isSome_none] at hpa
  have e : upB p = [47] := by unfold upB; rw [h]; rfl
  rw [e]
  have HP := Lib.hid hpa
  clear hpa hl h e
  go_enter Tryz.func77, Tryz.ntmps77
  go_wp2_with fail
  refine (HP.out _).mono ?_
  rintro e w1 ⟨rfl, g1⟩
  have F := Lib.hid g1.fp
  clear g1
  go_wp2
  go_ret
  exact ⟨rfl, F.out⟩
 | some u => ?_
 rw [h] at hpa
 simp only [Option.getD_some, Option.isSome_some] at hpa
 have e : upB p = u := by unfold upB; rw [h]; rfl
 rw [e]
 have HP := Lib.hid hpa
 clear hpa hl h e
 go_enter Tryz.func77, Tryz.ntmps77
 go_wp2_with fail
 refine (HP.out _).mono ?_
 rintro e w1 ⟨rfl, g1⟩
 have F := Lib.hid g1.fp
 clear g1
 go_wp2
 go_ret
 exact ⟨rfl, F.out⟩
set_option maxHeartbeats 1000000 in
theorem keptAt_c (k : Int) (p : Bs) (w : World) (hl : p.length ≤ 1000000) :
  Calls Tryz.prog 68 #[.int .i64 k, .string (B p)] w fun e w' => e = .returned (.string (B (keptAt k p))) ∧ Fp Non w w' := by
 have hup := fun w => upP_c p w hl
 have HU := Lib.hid hup
 by_cases h : k = 4 ∨ k = 9 ∨ k = 10
 ·have e : keptAt k p = p := by unfold keptAt; rw [if_pos h]
  rw [e]
  clear hup hl e
  rcases h with rfl | rfl | rfl
  ·go_enter Tryz.func68, Tryz.ntmps68
   go_wp2
   go_ret
   exact ⟨rfl, Fp.refl _ _⟩
  ·go_enter Tryz.func68, Tryz.ntmps68
   go_wp2
   go_ret
   exact ⟨rfl, Fp.refl _ _⟩
  go_enter Tryz.func68, Tryz.ntmps68
  go_wp2
  go_ret
  exact ⟨rfl, Fp.refl _ _⟩
 have e : keptAt k p = upB p := by unfold keptAt; rw [if_neg h]
 rw [e]
 have q4 : (k == 4) = false := beq_eq_false_iff_ne.2 (fun e => h (.inl e))
 have q9 : (k == 9) = false := beq_eq_false_iff_ne.2 (fun e => h (.inr (.inl e)))
 have q10 : (k == 10) = false := beq_eq_false_iff_ne.2 (fun e => h (.inr (.inr e)))
 clear hup hl e h
 go_enter Tryz.func68, Tryz.ntmps68
 go_wp2_with fail
 refine (HU.out _).mono ?_
 rintro e w1 ⟨rfl, hf⟩
 have F := Lib.hid hf
 clear hf
 go_wp2
 go_ret
 exact ⟨rfl, F.out⟩
theorem withinP_c (n a b : Int) (w : World) :
  Calls Tryz.prog 65 #[.int .i64 n, .int .i64 a, .int .i64 b] w fun e w' => e = .returned (.bool (decide (a ≤ n ∧ n ≤ b))) ∧ w = w' := by
 go_enter Tryz.func65, Tryz.ntmps65
 go_wp2
 all_goals (go_ret; refine ⟨ret_bool ?_, rfl⟩; simp; omega)
theorem withinP_d (n a b : Int) (w : World) (r : Bool) (hr : decide (a ≤ n ∧ n ≤ b) = r) :
  Calls Tryz.prog 65 #[.int .i64 n, .int .i64 a, .int .i64 b] w fun e w' => e = .returned (.bool r) ∧ w = w' := by
 rw [← hr]; exact withinP_c n a b w
set_option maxHeartbeats 400000 in
theorem refusedP_c (x : Int) (w : World) :
  Calls Tryz.prog 54 #[.int .i64 x] w fun e w' => e = .returned (badV x) ∧ Fp Non w w' := by
 go_enter Tryz.func54, Tryz.ntmps54
 go_wp2
 exact bodyPost_ret (v := badV x) (by simp [results, Tryz.results54, go_sem, badV]) rfl ⟨rfl, (Fp.refl Non w).alloc _⟩
theorem boxP5 {w : World} {b : Nat} {T : TypeId} {c0 c1 c2 c3 c4 : Value} (h : w.heap[b]? = some (.cells #[c0, c1, c2, c3, c4] T (0, 0))) :
  w.cell? ⟨b, 0, none⟩ = some c0 ∧ w.cell? ⟨b, 1, none⟩ = some c1 ∧ w.cell? ⟨b, 2, none⟩ = some c2 ∧ w.cell? ⟨b, 3, none⟩ = some c3 ∧ w.cell? ⟨b, 4, none⟩ = some c4 :=
 ⟨by rw [cell_of_row _ _ _ _ _ _ h]; rfl, by rw [cell_of_row _ _ _ _ _ _ h]; rfl, by rw [cell_of_row _ _ _ _ _ _ h]; rfl, by rw [cell_of_row _ _ _ _ _ _ h]; rfl, by rw [cell_of_row _ _ _ _ _ _ h]; rfl⟩
set_option maxHeartbeats 8000000 in
theorem fitsP_c (n : Nd) (w : World) (hl : n.path.length ≤ 1000000) :
  Calls Tryz.prog 63 #[ndV n] w fun e w' => e = .returned (.bool (sfit n)) ∧ Fp Non w w' := by
 have hri := fun w => Right_g n.path w (sz_of hl (by omega))
 obtain ⟨p, d, v, t, o⟩ := n
 obtain ⟨sp, hsp⟩ : ∃ b, (split p).isSome = b := ⟨_, rfl⟩
 simp only at hri
 rw [hsp] at hri
 obtain ⟨b1, h1⟩ : ∃ r, decide ((0 : Int) ≤ v ∧ v ≤ 281474976710656) = r := ⟨_, rfl⟩
 obtain ⟨b3, h3⟩ : ∃ r, decide ((0 : Int) ≤ o ∧ o ≤ 1099511627776) = r := ⟨_, rfl⟩
 obtain ⟨k, hk⟩ : ∃ k, k = d.length := ⟨_, rfl⟩
 have W1 := Lib.hid (fun w => withinP_d v 0 281474976710656 w b1 h1)
 have W3 := Lib.hid (fun w => withinP_d o 0 1099511627776 w b3 h3)
 obtain ⟨r, hr⟩ : ∃ r, sfit ⟨p, d, v, t, o⟩ = r := ⟨_, rfl⟩
 have key : r = (sp && decide (k ≤ 256) && decide (t = 0) && !(decide (p = [47]) && decide (o ≠ 0)) && b1 && b3) := by
  rw [← hr, ← hsp, ← h1, ← h3, hk]
  by_cases a1 : p = [47] <;> by_cases a2 : o = 0 <;> (rw [Bool.eq_iff_iff, sfit_iff]; simp [a1, a2, and_assoc])
 have HR := Lib.hid hri
 have HK := Lib.hid key
 rw [hr]
 have hf0 := fp_alloc w (.cells #[.string (B p), .string (B d), .int .i64 v, .int .i64 t, .int .i64 o] TN)
 have hb0 := heap_alloc_new w (.cells #[.string (B p), .string (B d), .int .i64 v, .int .i64 t, .int .i64 o] TN)
 have HF0 := Lib.hid (And.intro hf0 hb0)
 unfold ndV strV
 clear hri hsp h1 h3 hr key hf0 hb0 hl
 cases sp with
 | false =>
  clear hk
  go_enter Tryz.func63, Tryz.ntmps63
  go_wp2_with fail
  refine (HR.out _).mono ?_
  rintro e w1 ⟨rfl, g1⟩
  have F := Lib.hid (HF0.out.1.then g1.fp)
  clear g1
  go_wp2
  go_ret
  exact ⟨ret_bool (by rw [HK.out]; rfl), F.out⟩
 | true => ?_
 have fin : ∀ c : Bool, (decide (k ≤ 256) && decide (t = 0) && !(decide (p = [47]) && decide (o ≠ 0)) && b1 && b3) = c → r = c := fun c h => by rw [HK.out, ← h]; rfl
 have HFin := Lib.hid fin
 clear fin HK
 by_cases hd : k ≤ 256
 ·have q1 : ((256 : Int) < (d.length : Int)) = False := eq_false (by omega)
  by_cases ht : t = 0
  ·have q2 : (t != 0) = false := by simp [ht]
   by_cases hp : p = [47]
   ·subst hp
    by_cases ho : o = 0
    ·have q3 : (o != 0) = false := by simp [ho]
     have Q := Lib.hid (And.intro hd (And.intro ht ho))
     clear hd hk ht ho
     go_enter Tryz.func63, Tryz.ntmps63
     go_wp2_with fail
     refine (HR.out _).mono ?_
     rintro e w1 ⟨rfl, g1⟩
     have F := Lib.hid (HF0.out.1.then g1.fp)
     obtain ⟨c0, c1, c2, c3, c4⟩ := boxP5 (g1.fp.heap HF0.out.2 id)
     clear g1
     cases b1 <;> cases b3
     all_goals
      go_wp2_with (first
       | (go_at_call_of 65 v; refine (W1.out _).mono ?_; rintro e w2 ⟨rfl, rfl⟩)
       | (go_at_call_of 65 o; refine (W3.out _).mono ?_; rintro e w2 ⟨rfl, rfl⟩))
      go_ret
      exact ⟨ret_bool (HFin.out _ (by simp [Q.out])).symm, F.out⟩
    have q3 : (o != 0) = true := by simp [ho]
    have Q := Lib.hid (And.intro hd (And.intro ht ho))
    clear hd hk ht ho
    go_enter Tryz.func63, Tryz.ntmps63
    go_wp2_with fail
    refine (HR.out _).mono ?_
    rintro e w1 ⟨rfl, g1⟩
    have F := Lib.hid (HF0.out.1.then g1.fp)
    obtain ⟨c0, c1, c2, c3, c4⟩ := boxP5 (g1.fp.heap HF0.out.2 id)
    clear g1
    go_wp2
    go_ret
    exact ⟨ret_bool (HFin.out _ (by simp [Q.out])).symm, F.out⟩
   have q4 : (p == [47]) = false := by simpa using hp
   have Q := Lib.hid (And.intro hd (And.intro ht hp))
   clear hd hk ht hp
   go_enter Tryz.func63, Tryz.ntmps63
   go_wp2_with fail
   refine (HR.out _).mono ?_
   rintro e w1 ⟨rfl, g1⟩
   have F := Lib.hid (HF0.out.1.then g1.fp)
   obtain ⟨c0, c1, c2, c3, c4⟩ := boxP5 (g1.fp.heap HF0.out.2 id)
   clear g1
   cases b1 <;> cases b3
   all_goals
    go_wp2_with (first
     | (go_at_call_of 65 v; refine (W1.out _).mono ?_; rintro e w2 ⟨rfl, rfl⟩)
     | (go_at_call_of 65 o; refine (W3.out _).mono ?_; rintro e w2 ⟨rfl, rfl⟩))
    go_ret
    exact ⟨ret_bool (HFin.out _ (by simp [Q.out])).symm, F.out⟩
  have q2 : (t != 0) = true := by simp [ht]
  have Q := Lib.hid (And.intro hd ht)
  clear hd hk ht
  go_enter Tryz.func63, Tryz.ntmps63
  go_wp2_with fail
  refine (HR.out _).mono ?_
  rintro e w1 ⟨rfl, g1⟩
  have F := Lib.hid (HF0.out.1.then g1.fp)
  obtain ⟨c0, c1, c2, c3, c4⟩ := boxP5 (g1.fp.heap HF0.out.2 id)
  clear g1
  go_wp2
  go_ret
  exact ⟨ret_bool (HFin.out _ (by simp [Q.out])).symm, F.out⟩
 have q1 : ((256 : Int) < (d.length : Int)) = True := eq_true (by omega)
 have Q := Lib.hid hd
 clear hd hk
 go_enter Tryz.func63, Tryz.ntmps63
 go_wp2_with fail
 refine (HR.out _).mono ?_
 rintro e w1 ⟨rfl, g1⟩
 have F := Lib.hid (HF0.out.1.then g1.fp)
 obtain ⟨c0, c1, c2, c3, c4⟩ := boxP5 (g1.fp.heap HF0.out.2 id)
 clear g1
 go_wp2
 go_ret
 exact ⟨ret_bool (HFin.out _ (by simp [Q.out])).symm, F.out⟩
def OSp (l : List Opn) : Prop := ∀ x ∈ l, x.path.length ≤ 1000000
structure PdO (S : Nat → Prop) (wc : World) (f : Value) (q : Opn → Bool) : Prop where
 ex : ∃ k fi cap, f = .func (.func k) fi cap ∧ Enters Tryz.prog k ∧ ∀ n w1, n.path.length ≤ 1000000 → Fp S wc w1 →
  Calls Tryz.prog k (fi ++ #[opV n] ++ cap) w1 fun e w2 => e = .returned (.bool (q n)) ∧ Fp Non w1 w2
theorem PdO.later {S : Nat → Prop} {wc w : World} {f : Value} {q : Opn → Bool} (h : PdO S wc f q) (g : Fp S wc w) : PdO S w f q := by
 obtain ⟨k, fi, cap, e, h1, h2⟩ := h.ex
 exact ⟨k, fi, cap, e, h1, fun n w1 hn hf => h2 n w1 hn (g.same hf)⟩
theorem PdO.non {S : Nat → Prop} {wc : World} {f : Value} {q : Opn → Bool} (h : PdO S wc f q) : PdO Non wc f q := by
 obtain ⟨k, fi, cap, e, h1, h2⟩ := h.ex
 exact ⟨k, fi, cap, e, h1, fun n w1 hn hf => h2 n w1 hn hf.any⟩
def IdxO (q : Opn → Bool) (l : List Opn) (z : Int) : Prop := (z = -1 ∧ ∀ n ∈ l, q n = false) ∨ ∃ i, z = ((i : Nat) : Int) ∧ ∃ h : i < l.length, q l[i] = true ∧ ∀ j (hj : j < l.length), j < i → q l[j] = false
set_option maxHeartbeats 1000000 in
theorem IndexFuncO_c (v f : Value) (l : List Opn) (q : Opn → Bool) (w : World) (hv : Ops w v l) (hs : OSp l) (hq : PdO Non w f q) (hn : l.length ≤ 1000000) :
  Calls Tryz.prog 114 #[v, f] w fun e w' => (∃ z, e = .returned (.int .i64 z) ∧ IdxO q l z) ∧ Fp Non w w' := by
 obtain ⟨ao, cap, rfl⟩ := hv.shape
 obtain ⟨n, hnn⟩ : ∃ n, n = l.length := ⟨_, rfl⟩
 obtain ⟨kf, fi, fc, rfl, hen, hcall⟩ := hq.ex
 have HX := Lib.hid (And.intro hnn (And.intro hv (And.intro hs hcall)))
 rw [← hnn]
 have hnb : n ≤ 1000000 := by omega
 clear hv hs hq hcall hn hnn
 go_enter Tryz.func114, Tryz.ntmps114
 go_wp2_with fail
 go_loopw [8] (fun i wr => ∃ k : Nat, k ≤ n ∧ i = .int .i64 k ∧ Hid (Fp Non w wr ∧ ∀ j (hj : j < l.length), j < k → q l[j] = false)) (fun i _ => n - (RowKit.intOf i).toNat)
 case atStart => exact ⟨0, Nat.zero_le _, rfl, Fp.refl _ _, fun j _ h => absurd h (Nat.not_lt_zero j)⟩
 obtain ⟨k, hk, rfl, hR⟩ := hrel
 rename_i wr _
 by_cases hlt : k < n
 ·have hkl : k < l.length := by rw [← HX.out.1]; exact hlt
  obtain ⟨g, o, cap', e, hcell⟩ := HX.out.2.1.at (by omega)
  injection e with e1 e2 e3
  subst e1 e3
  have hnd := (hcell k hkl).keep hR.out.1 id
  have hcc := HX.out.2.2.2 l[k] wr (HX.out.2.2.1 _ (List.getElem_mem hkl)) hR.out.1
  obtain ⟨b, hb⟩ : ∃ b, q l[k] = b := ⟨_, rfl⟩
  rw [hb] at hcc
  have HB := Lib.hid (And.intro hkl (And.intro hb hlt))
  have HL := Lib.hid (And.intro hkl hlt)
  have hnew : b = false → ∀ j (hj : j < l.length), j < k + 1 → q l[j] = false := fun h j hj hjk => by
   rcases Nat.lt_or_eq_of_le (show j ≤ k by omega) with e | e
   ·exact hR.out.2 j hj e
   subst e; rw [hb, h]
  have hfin : b = true → IdxO q l (k : Int) := fun h => .inr ⟨k, rfl, hkl, by rw [hb, h], fun j hj hjk => hR.out.2 j hj hjk⟩
  have HN := Lib.hid (And.intro hnew hfin)
  clear HB hnew hfin hb hcell
  generalize l[k] = x at *
  have c0 := hnd.c0; have c1 := hnd.c1; have c2 := hnd.c2; have c3 := hnd.c3; have c4 := hnd.c4; have c5 := hnd.c5
  unfold strV at c1 c2
  unfold opV strV at hcc
  have q3 : ((k : Int) < (n : Int)) = True := eq_true (by omega)
  have q4 : (k < n) = True := eq_true hlt
  have HCC := Lib.hid hcc
  clear hnd hcc hkl hlt
  go_wp2_with fail
  rw [hen _ _]
  go_wp2_with fail
  refine HCC.out.mono ?_
  rintro e w2 ⟨rfl, hf2⟩
  have HF := Lib.hid (hR.out.1.then hf2)
  clear hf2
  cases b with
  | true =>
   have hI := HN.out.2 rfl
   have HI := Lib.hid hI
   clear HN hI
   go_wp2
   go_ret
   exact ⟨⟨_, rfl, HI.out⟩, HF.out⟩
  | false => ?_
  have hM : Hid (Fp Non w w2 ∧ ∀ j (hj : j < l.length), j < k + 1 → q l[j] = false) := ⟨HF.out, HN.out.1 rfl⟩
  have hkn := HL.out.2
  clear HN
  go_wp2
  go_roundw
  case rel => exact ⟨k + 1, by omega, by go_num, hM⟩
  case measure => simp [RowKit.intOf]; omega
 have hke : k = n := by omega
 subst hke
 have q3 : ((k : Int) < (k : Int)) = False := eq_false (by omega)
 have hI : IdxO q l (-1) := .inl ⟨rfl, fun x hx => by
  obtain ⟨i, hi, rfl⟩ := List.getElem_of_mem hx
  exact hR.out.2 i hi (by rw [HX.out.1]; exact hi)⟩
 have HI := Lib.hid hI
 clear hlt hk hI
 go_wp2
 go_ret
 exact ⟨⟨_, rfl, HI.out⟩, hR.out.1⟩
theorem IdxO.pos {q : Opn → Bool} {l : List Opn} {z : Int} (h : IdxO q l z) : decide (0 ≤ z) = l.any q := by
 rcases h with ⟨rfl, h⟩ | ⟨i, rfl, hi, h, _⟩
 ·have : l.any q = false := by rw [List.any_eq_false]; intro x hx; simp [h x hx]
  rw [this]; rfl
 have : l.any q = true := List.any_eq_true.2 ⟨_, List.getElem_mem hi, h⟩
 rw [this]; simp
set_option maxHeartbeats 1000000 in
theorem ContainsFuncO_c (v f : Value) (l : List Opn) (q : Opn → Bool) (w : World) (hv : Ops w v l) (hs : OSp l) (hq : PdO Non w f q) (hn : l.length ≤ 1000000) :
  Calls Tryz.prog 83 #[v, f] w fun e w' => e = .returned (.bool (l.any q)) ∧ Fp Non w w' := by
 have hi := IndexFuncO_c v f l q w hv hs hq hn
 have HI := Lib.hid hi
 obtain ⟨ao, cap, rfl⟩ := hv.shape
 obtain ⟨kf, fi, fc, rfl, _, _⟩ := hq.ex
 clear hi hv hq hs hn
 go_enter Tryz.func83, Tryz.ntmps83
 go_wp2_with fail
 refine HI.out.mono ?_
 rintro e w1 ⟨⟨z, rfl, hz⟩, hf⟩
 have HZ := Lib.hid (And.intro hz.pos hf)
 clear hz hf
 go_wp2
 go_ret
 exact ⟨ret_bool HZ.out.1, HZ.out.2⟩
set_option maxHeartbeats 1000000 in
theorem mMay1_c (o : Opn) (w : World) (hl : o.path.length ≤ 1000000) :
  Calls Tryz.prog 84 #[opV o] w fun e w' => e = .returned (.bool (!may o)) ∧ Fp Non w w' := by
 have hm := fun w => May_c o w hl
 obtain ⟨b, hb⟩ : ∃ b, may o = b := ⟨_, rfl⟩
 rw [hb] at hm
 rw [hb]
 obtain ⟨kk, p, d, v, ow, tt⟩ := o
 unfold opV strV at *
 simp only at *
 have hf0 := fp_alloc w (.cells #[.int .i64 kk, .string (B p), .string (B d), .int .i64 v, .int .i64 ow, .bool tt] TO_)
 have HF0 := Lib.hid hf0
 have HM := Lib.hid hm
 clear hm hf0 hb hl
 go_enter Tryz.func84, Tryz.ntmps84
 go_wp2_with fail
 refine (HM.out _).mono ?_
 rintro e w1 ⟨rfl, hf⟩
 have F := Lib.hid (HF0.out.then hf)
 clear hf
 go_wp2
 go_ret
 exact ⟨rfl, F.out⟩
theorem any_not_may (l : List Opn) : (l.any fun o => !may o) = !(l.all may) := by
 induction l with
 | nil => rfl
 | cons o l ih => rw [List.any_cons, List.all_cons, ih, Bool.not_and]
set_option maxHeartbeats 2000000 in
theorem mMay_c (v : Value) (l : List Opn) (w : World) (hv : Ops w v l) (hs : OSp l) (hn : l.length ≤ 1000000) :
  Calls Tryz.prog 42 #[v] w fun e w' => e = .returned (.bool (mayL l)) ∧ Fp Non w w' := by
 have hen : Enters Tryz.prog 84 := fun args w => enters_of Tryz.func84 (by kernel_rfl) rfl args w
 have hpd : PdO Non w (.func (.func 84) #[] #[]) (fun o => !may o) := ⟨_, #[], #[], rfl, hen, fun o w1 ho _ => mMay1_c o w1 ho⟩
 have hcf := ContainsFuncO_c v _ l _ w hv hs hpd hn
 rw [any_not_may] at hcf
 obtain ⟨ao, cap, rfl⟩ := hv.shape
 obtain ⟨n, hnn⟩ : ∃ n, n = l.length := ⟨_, rfl⟩
 obtain ⟨al, hal⟩ : ∃ b, l.all may = b := ⟨_, rfl⟩
 have key : mayL l = (decide (1 ≤ n ∧ n ≤ 8) && al) := by unfold mayL; rw [hal, hnn]
 rw [hal] at hcf
 rw [← hnn] at hcf ⊢
 have HC := Lib.hid hcf
 have HK := Lib.hid key
 clear hcf hal key hnn hv hs hn hpd hen
 by_cases h1 : n < 1
 ·have q1 : ((n : Int) < 1) = True := eq_true (by omega)
  have q2 : (n < 1) = True := eq_true h1
  have q3 : n = 0 := by omega
  subst q3
  have HE := Lib.hid (show mayL l = false by rw [HK.out]; rfl)
  clear h1
  go_enter Tryz.func42, Tryz.ntmps42
  go_wp2
  go_ret
  exact ⟨ret_bool HE.out.symm, Fp.refl _ _⟩
 have q1 : ((n : Int) < 1) = False := eq_false (by omega)
 have q2 : (n < 1) = False := eq_false h1
 have q2b : (n = 0) = False := eq_false (by omega)
 by_cases h8 : 8 < n
 ·have q3 : ((8 : Int) < (n : Int)) = True := eq_true (by omega)
  have q4 : (8 < n) = True := eq_true h8
  have HE := Lib.hid (show mayL l = false by rw [HK.out, decide_eq_false (by omega)]; rfl)
  clear h1 h8
  go_enter Tryz.func42, Tryz.ntmps42
  go_wp2
  go_ret
  exact ⟨ret_bool HE.out.symm, Fp.refl _ _⟩
 have q3 : ((8 : Int) < (n : Int)) = False := eq_false (by omega)
 have q4 : (8 < n) = False := eq_false h8
 have HE := Lib.hid (show mayL l = al by rw [HK.out, decide_eq_true (by omega)]; rfl)
 clear h1 h8
 go_enter Tryz.func42, Tryz.ntmps42
 go_wp2_with fail
 refine HC.out.mono ?_
 rintro e w1 ⟨rfl, hf⟩
 have F := Lib.hid hf
 clear hf
 go_wp2
 go_ret
 exact ⟨ret_bool (by rw [HE.out]; first | done | simp), F.out⟩
theorem wpList_app {P : Program} {w : World} {ops : Array Oper} {rest : List Oper} {o : Oper} {a : Act} {Q : Exit → Act → World → Prop} (hgd : o.guard = none) (s x : Operand) (t u : TypeId)
  (ho : o.op = .call { callee := .builtin .append, args := #[s, x], argTypes := #[t, u] }) (v xv : Value) (hs : a.eval s = v) (hx : a.eval x = xv) (R : Value → World → Prop)
  (hr : ∃ v' w', (Builtin.append_ #[t, u] o.type #[v, xv]).run P w = .ok v' w' ∧ R v' w') (h : ∀ v' w', R v' w' → wpList P ops Q rest (a.put o.dst v') w') : wpList P ops Q (o :: rest) a w := by
 refine wpList_plain hgd fun K hK => ?_
 obtain ⟨v', w', hr, h2⟩ := hr
 unfold Oper.wp execOp
 simp only [ho, resolve, invoke, builtin, Sem.run_bind, Sem.run_pure, Result.andThen_ok, List.map_toArray, List.map_cons, List.map_nil, hs, hx, hr]
 exact hK _ _ (h v' w' h2)
theorem nil_slice (w : World) (a : Addr) (n c : Nat) : (binOp .eql TL (.slice (some a) n c) (.slice none 0 0)).run Tryz.prog w = .ok (.bool false) w :=
 Lib.run_eql_slice_nil w TL TN (some a) n c 0 0 Tryz.underlying22
structure NewN (w : World) (n : Nat) (l : List Nd) (v' : Value) (w' : World) : Prop where
 ex : ∃ G cap, v' = .slice (some ⟨G, 0, none⟩) n cap ∧ Nr w' G cap l ∧ w.heap.size ≤ G ∧ Fp Non w w'
set_option maxHeartbeats 2000000 in
theorem Clone_c (v : Value) (l : List Nd) (w : World) (hv : Ns w v l) (h0 : 0 < l.length) (h5 : l.length ≤ 4000) :
  Calls Tryz.prog 55 #[v] w fun e w' => ∃ G cap, e = .returned (.slice (some ⟨G, 0, none⟩) l.length cap) ∧ Nr w' G cap l ∧ w.heap.size ≤ G ∧ Fp Non w w' := by
 obtain ⟨g, o, cap, rfl, _, _, hgl, hcell⟩ := hv.at h0
 have hown : (w.alloc (.cells #[] TN)).ownsRow w.heap.size TN 5 (.slice (some ⟨w.heap.size, 0, none⟩) 0 0) ([] : List Nd).length (rows []) := World.ownsRow_lit w #[] 0 (Nat.le_refl _) (by unfold maxLen; omega) rfl
 have hap := fun ty => app_nodes (w.alloc (.cells #[] TN)) w.heap.size _ [] l ty g o l.length cap hown rfl (fun i hi => (hcell i hi).keep ((Fp.refl Non w).alloc _) id) (by simp; omega) (by simp) (by simpa using h0)
 have hnil := nil_slice
 obtain ⟨m, hn⟩ : ∃ m, m + 1 = l.length := ⟨l.length - 1, by omega⟩
 have HA := Lib.hid hap
 simp only [List.length_nil, Nat.zero_add, List.nil_append, ← hn] at HA
 rw [← hn]
 have hA2 : ∀ ty, ∃ v' w', (Builtin.append_ #[TL, TL] ty #[.slice (some ⟨w.heap.size, 0, none⟩) 0 0, .slice (some ⟨g, o, none⟩) (m + 1) cap]).run Tryz.prog (w.alloc (.cells #[] TN)) = .ok v' w' ∧ NewN w (m + 1) l v' w' := fun ty => by
  obtain ⟨G, cap2, w2, hr, hrow, hlo, hg, _⟩ := HA.out ty
  exact ⟨_, w2, hr, ⟨G, cap2, rfl, hrow, hlo, ((Fp.refl Non w).alloc _).grown hg (fun k hk => .inr (by simp [Value.ownBlock] at hk; omega))⟩⟩
 have HA2 := Lib.hid (hA2 TL)
 clear hA2 hap hown hcell hv h0 h5 hn
 go_enter Tryz.func55, Tryz.ntmps55
 go_wp2_with (at_builtin; go_must (refine wpList_app rfl _ _ _ _ rfl _ _ rfl rfl (NewN w (m + 1) l) HA2.out ?_))
 intro u w2 hR
 obtain ⟨G, cap2, rfl, hF⟩ := hR.ex
 have HF := Lib.hid hF
 clear hF hR
 go_wp2
 go_ret
 exact ⟨G, cap2, rfl, HF.out⟩
theorem step_copy {P : Program} {ops : Array Oper} {o : Oper} {a : Act} {w : World} {K : Act → World → Prop} {Q : Exit → Act → World → Prop} {E : Prop} (hgd : o.guard = none) (s x : Operand) (t u : TypeId)
  (ho : o.op = .call { callee := .builtin .copy, args := #[s, x], argTypes := #[t, u] }) (v xv : Value) (hs : a.eval s = v) (hx : a.eval x = xv) (R : Value → World → Prop)
  (hr : ∃ v' w', (Builtin.copy_ #[t, u] o.type #[v, xv]).run P w = .ok v' w' ∧ R v' w') (h : ∀ v' w', R v' w' → K (a.put o.dst v') w') :
  if Region.wanted o (yielded ops a.tmps) = true then Oper.wp P o a w K Q else E := by
 have hw : Region.wanted o (yielded ops a.tmps) = true := by simp [Region.wanted, hgd]
 rw [if_pos hw]
 obtain ⟨v', w', hr, h2⟩ := hr
 unfold Oper.wp execOp
 simp only [ho, resolve, invoke, builtin, Sem.run_bind, Sem.run_pure, Result.andThen_ok, List.map_toArray, List.map_cons, List.map_nil, hs, hx, hr]
 exact h v' w' h2
structure CopR (G cap : Nat) (cur : List Value) (w w' : World) : Prop where
 hp : w'.heap[G]? = some (.cells cur.toArray TN (0, 0))
 len : cur.length = cap * 5
 fp : Fp (fun k => k = G) w w'
theorem copy_at {w : World} {G cap : Nat} {cur : List Value} (hg : w.heap[G]? = some (.cells cur.toArray TN (0, 0))) (hl : cur.length = cap * 5) (ty : TypeId) (o dLen dCap : Nat) (a : Addr) (sLen sCap : Nat) (l : List Nd) (hm : l.length = Nat.min sLen dLen)
  (hsrc : ∀ i (h : i < l.length) j v, (ndC l[i])[j]? = some v → w.cell? (a.add (i * 5 + j)) = some v) (hfit : o + l.length * 5 ≤ cap * 5) :
  ∃ v' w', (Builtin.copy_ #[TL, TL] ty #[.slice (some ⟨G, o, none⟩) dLen dCap, .slice (some a) sLen sCap]).run Tryz.prog w = .ok v' w' ∧ CopR G cap (cur.take o ++ rows l ++ cur.drop (o + l.length * 5)) w w' := by
 have h := run_copy_nodes w ty G o dLen dCap a sLen sCap cur l.length (rows l) hg hm (rows_len l) (fun j v hv => by
  have hj : j < l.length * 5 := by rw [← rows_len]; exact (List.getElem?_eq_some_iff.1 hv).1
  have hd : j / 5 < l.length := by omega
  have e : j / 5 * 5 + j % 5 = j := by omega
  rw [← e, rows_get l (j / 5) (j % 5) hd (by omega)] at hv
  have := hsrc (j / 5) hd (j % 5) v hv
  rwa [e] at this) (by rw [rows_len, hl]; exact hfit) (rows_one l)
 rw [rows_len] at h
 refine ⟨_, _, h, setRow_heap w G _ _ TN _ hg, ?_, fp_setRow w G _⟩
 simp only [List.length_append, List.length_take, List.length_drop, rows_len, hl]
 omega
theorem Nr.src {w : World} {G cap : Nat} {l : List Nd} (h : Nr w G cap l) (k : Nat) : ∀ i (hi : i < (l.drop k).length) j v, (ndC (l.drop k)[i])[j]? = some v → w.cell? ((⟨G, k * 5, none⟩ : Addr).add (i * 5 + j)) = some v := by
 intro i hi j v hv
 rw [List.length_drop] at hi
 rw [List.getElem_drop] at hv
 have hj : j < 5 := by have := (List.getElem?_eq_some_iff.1 hv).1; simpa [ndC] using this
 rw [Addr.add_lit, show k * 5 + (i * 5 + j) = (k + i) * 5 + j from by omega, h.cell (k + i) j (by omega) hj, hv]
theorem ins_cells (l : List Nd) (k : Nat) (hk : k ≤ l.length) (x : Nd) (cur : List Value) (h1 : cur.take (k * 5) = rows (l.take k)) (h2 : (l.length + 1) * 5 ≤ cur.length) :
  ∃ rest, ((cur.take ((k + 1) * 5) ++ rows (l.drop k) ++ cur.drop ((k + 1) * 5 + (l.drop k).length * 5)).take (k * 5) ++ rows [x] ++ (cur.take ((k + 1) * 5) ++ rows (l.drop k) ++ cur.drop ((k + 1) * 5 + (l.drop k).length * 5)).drop (k * 5 + [x].length * 5)) = rows (ins l k x) ++ rest ∧
   (l.length + 1) * 5 + rest.length = cur.length := by
 refine ⟨cur.drop ((k + 1) * 5 + (l.drop k).length * 5), ?_, ?_⟩
 ·have e1 : (cur.take ((k + 1) * 5)).length = (k + 1) * 5 := by rw [List.length_take]; omega
  have e2 : (cur.take ((k + 1) * 5) ++ rows (l.drop k) ++ cur.drop ((k + 1) * 5 + (l.drop k).length * 5)).take (k * 5) = rows (l.take k) := by
   rw [List.append_assoc, List.take_append_of_le_length (by rw [e1]; omega), List.take_take, Nat.min_eq_left (by omega), h1]
  have e3 : (cur.take ((k + 1) * 5) ++ rows (l.drop k) ++ cur.drop ((k + 1) * 5 + (l.drop k).length * 5)).drop (k * 5 + [x].length * 5) = rows (l.drop k) ++ cur.drop ((k + 1) * 5 + (l.drop k).length * 5) := by
   rw [List.append_assoc, List.drop_append, List.drop_of_length_le (by rw [e1]; simp; omega), e1, show k * 5 + [x].length * 5 - (k + 1) * 5 = 0 from by simp; omega]
   rfl
  rw [e2, e3, ins, rows_app]
  simp [rows, List.append_assoc]
 simp only [List.length_drop]; omega
set_option maxHeartbeats 4000000 in
theorem Insert_mid {w : World} {G cap X : Nat} {l : List Nd} {x : Nd} (h : Nr w G cap l) (k : Nat) (hk : k < l.length) (hroom : l.length + 1 ≤ cap) (hX : NdAt w X 0 x) (hne : X ≠ G) (hl : l.length ≤ 4000) (hfr : w.heap[X]? = some (.cells (ndC x).toArray TN (0, 0))) :
  Calls Tryz.prog 125 #[.slice (some ⟨G, 0, none⟩) l.length cap, .int .i64 (k : Int), .slice (some ⟨X, 0, none⟩) 1 1] w fun e w' => e = .returned (.slice (some ⟨G, 0, none⟩) (l.length + 1) cap) ∧ Nr w' G cap (ins l k x) ∧ Fp (fun j => j = G) w w' := by
 have hm := h.most
 unfold maxLen at hm
 obtain ⟨n, hn⟩ : ∃ n, n = l.length := ⟨_, rfl⟩
 have q1 : ((k : Int) == (n : Int)) = false := beq_eq_false_iff_ne.2 (by omega)
 have q2 : ((cap : Int) < (n : Int) + 1) = False := eq_false (by omega)
 have hkn : k < n := by omega
 have hn6 : n ≤ 4000 := by omega
 have hcn : n + 1 ≤ cap := by omega
 have wk : IntKind.i64.wrap ((k : Int) + 1) = ((k + 1 : Nat) : Int) := by rw [IntKind.wrap_i64]; omega
 have r1 : (cap = k + 1) = False := eq_false (by omega)
 have r2 : (cap = k) = False := eq_false (by omega)
 have r3 : (((k + 1 : Nat) : Int) ≤ (n : Int) + 1) = True := eq_true (by omega)
 have r4 : (k ≤ n) = True := eq_true (by omega)
 have r5 : ((0 : Int) ≤ ((k + 1 : Nat) : Int)) = True := eq_true (by omega)
 have r7 : ((k : Int) ≤ (n : Int) + 1) = True := eq_true (by omega)
 have r6 : ((0 : Int) ≤ (k : Int) + 1) = True := eq_true (by omega)
 have e5 : n + 1 - (k + 1) = n - k := by omega
 obtain ⟨rest, hgr, hrl⟩ := h.ex
 have hd : Nr w.drew G cap l := h.keep ((Fp.refl Non w).drew) id
 have hlc : (rows l ++ rest).length = cap * 5 := by rw [List.length_append, rows_len]; omega
 have hc1 : ∀ ty, ∃ v' w', (Builtin.copy_ #[TL, TL] ty #[.slice (some ⟨G, (k + 1) * 5, none⟩) (n - k) (cap - (k + 1)), .slice (some ⟨G, k * 5, none⟩) (n + 1 - k) (cap - k)]).run Tryz.prog w.drew = .ok v' w' ∧ CopR G cap ((rows l ++ rest).take ((k + 1) * 5) ++ rows (l.drop k) ++ (rows l ++ rest).drop ((k + 1) * 5 + (l.drop k).length * 5)) w.drew w' := fun ty =>
  copy_at (w := w.drew) hgr hlc ty ((k + 1) * 5) (n - k) (cap - (k + 1)) ⟨G, k * 5, none⟩ (n + 1 - k) (cap - k) (l.drop k) (by rw [List.length_drop, ← hn]; simp only [Nat.min_def]; split <;> omega) (hd.src k) (by rw [List.length_drop]; omega)
 have HC1 := Lib.hid hc1
 have HX := Lib.hid (And.intro hX hne)
 have HX2 := Lib.hid (And.intro (show (rows l ++ rest).take (k * 5) = rows (l.take k) by rw [List.take_append_of_le_length (by rw [rows_len]; omega), rows_take]) (show (l.length + 1) * 5 ≤ (rows l ++ rest).length by rw [hlc]; omega))
 have HX3 := Lib.hid (And.intro hlc h.most)
 have hov : ∀ o lb cb, (callFunc 163 #[.slice (some ⟨X, 0, none⟩) 1 1, .slice (some ⟨G, o, none⟩) lb cb]).run Tryz.prog w = .ok (.value (.bool false)) w := fun o lb cb => by
  obtain ⟨r, hg, hr⟩ := h.ex
  rw [run_callFunc_extern Tryz.func163 (by kernel_rfl) (by kernel_rfl) (by kernel_rfl) (e := Extern.SlicesOverlaps.overlaps #[TL, TL] #[4]) (by kernel_rfl),
   Lib.run_overlaps_apart w TL 4 TN Tryz.underlying22 5 szN ⟨X, 0, none⟩ ⟨G, o, none⟩ 1 1 lb cb hne TN TN 5 (cap * 5) (by simp [World.shape?, hfr, ndC]) (by simp [World.shape?, hg, rows_len]; omega) (by omega) (by simp [World.frozen?, hfr]) (by simp [World.frozen?, hfr])]
  rfl
 rw [← hn]
 have HN := Lib.hid hn
 clear hn
 go_enter Tryz.func125, Tryz.ntmps125
 clear h hX hfr hc1 hd hlc hgr hrl
 go_wp2_with (simp only [hov])
 go_region_law ((refine step_copy rfl _ _ TL TL rfl (.slice (some ⟨G, (k + 1) * 5, none⟩) (n - k) (cap - (k + 1))) (.slice (some ⟨G, k * 5, none⟩) (n + 1 - k) (cap - k)) (by simp [Act.eval, Act.put]) (by simp [Act.eval, Act.put]) (fun _ w' => CopR G cap _ w.drew w') (HC1.out _) ?_; intro v1 w1 hR1))
 have hX1 : NdAt w1 X 0 x := (HX.out.1.keep ((Fp.refl Non w).drew) id).keep hR1.fp HX.out.2
 have hc2 := fun ty => copy_at hR1.hp hR1.len ty (k * 5) (n + 1 - k) (cap - k) ⟨X, 0, none⟩ 1 1 [x] (by simp only [Nat.min_def, List.length_cons, List.length_nil]; split <;> omega) (fun i hi j v hv => by
  have hi0 : i = 0 := by simp at hi; omega
  subst hi0
  have := hX1.get j v hv
  rwa [show 0 * 5 + j = j from by omega]) (by simp; omega)
 have HC2 := Lib.hid hc2
 have HF1 := Lib.hid (((Fp.refl Non w).drew.any (S := fun j => j = G)).same hR1.fp)
 clear hR1 hX1 hc2
 go_wp2_with fail
 obtain ⟨v2, w2, hr, hR2⟩ := HC2.out 3
 rw [hr]
 simp only [Result.andThen]
 rw [Oper.upon_value]
 clear hr
 obtain ⟨rest2, he, hl2⟩ := ins_cells l k (by have := HN.out; omega) x (rows l ++ rest) HX2.out.1 HX2.out.2
 have hrow : Nr w2 G cap (ins l k x) := by
  refine ⟨⟨rest2, ?_, ?_⟩, ?_, HX3.out.2⟩
  ·have := hR2.hp; rw [he] at this; exact this
  ·rw [ins_length]; have := HX3.out.1; omega
  rw [ins_length]; have := HN.out; omega
 have HR := Lib.hid (And.intro hrow (HF1.out.same hR2.fp))
 clear hR2 he hl2 hrow
 go_wp2
 go_ret
 exact ⟨rfl, HR.out.1, HR.out.2⟩
end Go.Proofs.YtphoglepiegeiaaGreatDoor
