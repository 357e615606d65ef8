/- A text of this proof. -/
import Derived.Deep.RegionHeld
import Derived.Laws.EntriesVeiled
import Derived.StillTailTactics
import Derived.Test.YtphoglepiegeiaaGreatDoorZCC
import Derived.Test.YtphoglepiegeiaaGreatDoorZCG
set_option linter.unusedSimpArgs false
set_option linter.unusedVariables false
namespace Go.Proofs.YtphoglepiegeiaaGreatDoor
set_option maxRecDepth 20000
open Go.RowKit Pm
attribute [local irreducible] wpStill
abbrev TR : TypeId := 34
structure MeR (lo b G : Nat) (l' : List Nd) (r : Res) (w : World) (e : Ending) (w' : World) : Prop where
 ex : ∃ nv G' cap', e = .returned (.agg #[.int .i64 r.err, strV r.path, strV r.data, .int .i64 r.ver, nv]) ∧ Own w.heap.size w' nv r.names ∧ Tn lo b G' cap' l' w' ∧ (G' = G ∨ w.heap.size ≤ G')
 fp : Fp (ownT b G) w w'
structure Bx (w : World) (kk : Int) (p d : Bs) (v ow : Int) (t : Bool) (W : World) : Prop where
 op : W.heap[w.heap.size]? = some (.cells #[.int .i64 kk, .string (B p), .string (B d), .int .i64 v, .int .i64 ow, .bool t] TO_ (0, 0))
 res : W.heap[w.heap.size + 1]? = some (.cells #[.int .i64 0, .string ⟨#[]⟩, .string ⟨#[]⟩, .int .i64 0, .slice none 0 0] TR (0, 0))
 sz : w.heap.size + 2 ≤ W.heap.size
theorem Bx.made (w : World) (kk : Int) (p d : Bs) (v ow : Int) (t : Bool) : Bx w kk p d v ow t ((w.alloc (.cells #[.int .i64 kk, .string (B p), .string (B d), .int .i64 v, .int .i64 ow, .bool t] TO_)).alloc (.cells #[.int .i64 0, .string ⟨#[]⟩, .string ⟨#[]⟩, .int .i64 0, .slice none 0 0] TR)) := by
 refine ⟨?_, ?_, by simp⟩
 ·exact Fp.heap ((Fp.refl Non (w.alloc (.cells #[.int .i64 kk, .string (B p), .string (B d), .int .i64 v, .int .i64 ow, .bool t] TO_))).alloc _) (heap_alloc_new w _) id
 have := heap_alloc_new (w.alloc (.cells #[.int .i64 kk, .string (B p), .string (B d), .int .i64 v, .int .i64 ow, .bool t] TO_)) (.cells #[.int .i64 0, .string ⟨#[]⟩, .string ⟨#[]⟩, .int .i64 0, .slice none 0 0] TR)
 simpa using this
theorem Bx.keep {w W W' : World} {kk : Int} {p d : Bs} {v ow : Int} {t : Bool} (h : Bx w kk p d v ow t W) {S : Nat → Prop} (f : Fp S W W') (hS : ∀ k, S k → k < w.heap.size ∨ w.heap.size + 2 ≤ k) : Bx w kk p d v ow t W' :=
 ⟨f.heap h.op (fun h => by have := hS _ h; omega), f.heap h.res (fun h => by have := hS _ h; omega), Nat.le_trans h.sz f.size⟩
theorem Bx.non {w W W' : World} {kk : Int} {p d : Bs} {v ow : Int} {t : Bool} (h : Bx w kk p d v ow t W) (f : Fp Non W W') : Bx w kk p d v ow t W' := h.keep f (fun _ h => h.elim)
theorem Bx.r {w W : World} {kk : Int} {p d : Bs} {v ow : Int} {t : Bool} (h : Bx w kk p d v ow t W) : W.cell? ⟨w.heap.size + 1, 0, none⟩ = some (.int .i64 0) ∧ W.cell? ⟨w.heap.size + 1, 1, none⟩ = some (.string ⟨#[]⟩) ∧ W.cell? ⟨w.heap.size + 1, 2, none⟩ = some (.string ⟨#[]⟩) ∧ W.cell? ⟨w.heap.size + 1, 3, none⟩ = some (.int .i64 0) ∧ W.cell? ⟨w.heap.size + 1, 4, none⟩ = some (.slice none 0 0) :=
 ⟨by rw [cell_of_row _ _ _ _ _ _ h.res]; rfl, by rw [cell_of_row _ _ _ _ _ _ h.res]; rfl, by rw [cell_of_row _ _ _ _ _ _ h.res]; rfl, by rw [cell_of_row _ _ _ _ _ _ h.res]; rfl, by rw [cell_of_row _ _ _ _ _ _ h.res]; rfl⟩
theorem Bx.fz {w W : World} {kk : Int} {p d : Bs} {v ow : Int} {t : Bool} (h : Bx w kk p d v ow t W) : ∀ j, W.frozen? ⟨w.heap.size + 1, j, none⟩ = false := fun j => by simp [World.frozen?, h.res]
theorem MeR.still {lo b G cap : Nat} {l : List Nd} {w w' : World} {r : Res} {nv : Value} (h : Tn lo b G cap l w) (f : Fp Non w w') (ho : Own w.heap.size w' nv r.names) :
  MeR lo b G l r w (.returned (.agg #[.int .i64 r.err, strV r.path, strV r.data, .int .i64 r.ver, nv])) w' :=
 ⟨⟨nv, G, cap, rfl, ho, h.non f, .inl rfl⟩, f.any⟩
theorem Own.low {b0 b1 : Nat} {w : World} {v : Value} {ps : List Bs} (h : Own b1 w v ps) (hb : b0 ≤ b1) : Own b0 w v ps := by
 refine ⟨⟨h.1.1, ?_⟩, h.2⟩
 rcases h.1.2 with hn | ⟨g, cap, cur, e, hg, rest⟩
 ·exact .inl hn
 exact .inr ⟨g, cap, cur, e, Nat.le_trans hb hg, rest⟩
theorem own5 {b0 : Nat} {w : World} {nv : Value} {ps : List Bs} (h : Own b0 w nv ps) {b : Nat} (hb : nv.ownBlock = some b → False) (v0 v1 v2 v3 v4 : Value) :
  Own b0 (((((w.setCell ⟨b, 0, none⟩ v0).setCell ⟨b, 1, none⟩ v1).setCell ⟨b, 2, none⟩ v2).setCell ⟨b, 3, none⟩ v3).setCell ⟨b, 4, none⟩ v4) nv ps :=
 ⟨(fp5 (S := fun k => k = b) (Fp.refl _ w) (.inl rfl) v0 v1 v2 v3 v4).owns h.1 (fun k hk e => hb (by rw [hk, e])), h.2⟩
set_option maxHeartbeats 4000000 in
theorem get_m {lo b G cap : Nat} {l : List Nd} {w : World} (h : Tn lo b G cap l w) (hs : Sp l) (hl : l.length ≤ 4000) (hlo : lo ≤ w.heap.size) (at_ : Nat) (hat : at_ < l.length) (x : Nd) (hx : l[at_] = x) (o : Opn) :
  Calls Tryz.prog 120 #[.pointer (some ⟨b, 0, none⟩), .int .i64 (at_ : Int), opV o] w (MeR lo b G l ⟨0, [], x.data, x.ver, []⟩ w) := by
 obtain ⟨kk, p, d, v, ow, t⟩ := o
 unfold opV strV
 have hbx := Bx.made w kk p d v ow t
 have hf0 : Fp Non w ((w.alloc (.cells #[.int .i64 kk, .string (B p), .string (B d), .int .i64 v, .int .i64 ow, .bool t] TO_)).alloc (.cells #[.int .i64 0, .string ⟨#[]⟩, .string ⟨#[]⟩, .int .i64 0, .slice none 0 0] TR)) := ((Fp.refl Non w).alloc _).alloc _
 have hT0 := (h.non hf0).non ((Fp.refl Non _).drew)
 have hbd := hbx.non ((Fp.refl Non _).drew)
 have hnd := hT0.row.nd at_ hat
 rw [hx] at hnd
 have c0 := hnd.c0; have c1 := hnd.c1; have c2 := hnd.c2; have c3 := hnd.c3; have c4 := hnd.c4
 unfold strV at c0 c1
 simp only [Nat.zero_add] at c0 c1 c2 c3 c4
 have cb := hT0.c0
 obtain ⟨n, hn⟩ : ∃ n, n = l.length := ⟨_, rfl⟩
 rw [← hn] at cb
 have q1 : (at_ < n) = True := eq_true (by omega)
 have q2 : ((at_ : Int) < (n : Int)) = True := eq_true (by omega)
 obtain ⟨r0, r1, r2, r3, r4⟩ := (hbd).r
 have z0 := (hbd).fz 0; have z1 := (hbd).fz 1; have z2 := (hbd).fz 2; have z3 := (hbd).fz 3; have z4 := (hbd).fz 4
 have HX := zI (yI h (yI hbd (yI hf0.drew hn)))
 clear hT0 hnd hbx hbd hf0 h hx hat hn hs hl hlo
 go_enter Tryz.func120, Tryz.ntmps120
 go_wp2_with fail
 refine wp_region_still_tail 17 (by kernel_rfl) (by kernel_rfl) ?_
 simp only [List.take_succ_cons, List.take_zero, List.drop_succ_cons, List.drop_zero]
 change wpStill _ _ (World.drew _) _ _ _
 repeat still_step
 refine wpStill_nil ?_
 change wpList _ _ _ _ _ (World.drew _)
 generalize World.drew ((w.alloc (.cells #[.int .i64 kk, .string (B p), .string (B d), .int .i64 v, .int .i64 ow, .bool t] TO_)).alloc (.cells #[.int .i64 0, .string ⟨#[]⟩, .string ⟨#[]⟩, .int .i64 0, .slice none 0 0] TR)) = W0 at *
 go_wp2
 have hw9 := set5 HX.out.2.1.res (.int .i64 0) (.string ⟨#[]⟩) (.string (B x.data)) (.int .i64 x.ver) (.slice none 0 0)
 have hf9 := fp5 (S := Non) HX.out.2.2.1 (b := w.heap.size + 1) (.inr (by omega)) (.int .i64 0) (.string ⟨#[]⟩) (.string (B x.data)) (.int .i64 x.ver) (.slice none 0 0)
 generalize (((((World.setCell W0 _ _).setCell _ _).setCell _ _).setCell _ _).setCell _ _) = w9 at *
 obtain ⟨s0, s1, s2, s3, s4⟩ := b5 hw9
 exact bodyPost_ret (v := .agg #[.int .i64 0, .string ⟨#[]⟩, .string (B x.data), .int .i64 x.ver, .slice none 0 0]) (by simp [results, Tryz.results120, go_sem, s0, s1, s2, s3, s4]) rfl (MeR.still HX.out.1 (r := ⟨0, [], x.data, x.ver, []⟩) (nv := .slice none 0 0) hf9 (Own.nil _ _))
set_option maxHeartbeats 4000000 in
theorem check_m {lo b G cap : Nat} {l : List Nd} {w : World} (h : Tn lo b G cap l w) (hs : Sp l) (hl : l.length ≤ 4000) (hlo : lo ≤ w.heap.size) (at_ : Nat) (hat : at_ < l.length) (x : Nd) (hx : l[at_] = x) (o : Opn) :
  Calls Tryz.prog 119 #[.pointer (some ⟨b, 0, none⟩), .int .i64 (at_ : Int), opV o] w (MeR lo b G l ⟨0, [], [], x.ver, []⟩ w) := by
 obtain ⟨kk, p, d, v, ow, t⟩ := o
 unfold opV strV
 have hbx := Bx.made w kk p d v ow t
 have hf0 : Fp Non w ((w.alloc (.cells #[.int .i64 kk, .string (B p), .string (B d), .int .i64 v, .int .i64 ow, .bool t] TO_)).alloc (.cells #[.int .i64 0, .string ⟨#[]⟩, .string ⟨#[]⟩, .int .i64 0, .slice none 0 0] TR)) := ((Fp.refl Non w).alloc _).alloc _
 have hT0 := h.non hf0
 have hbd := hbx
 have hnd := hT0.row.nd at_ hat
 rw [hx] at hnd
 have c0 := hnd.c0; have c1 := hnd.c1; have c2 := hnd.c2; have c3 := hnd.c3; have c4 := hnd.c4
 unfold strV at c0 c1
 simp only [Nat.zero_add] at c0 c1 c2 c3 c4
 have cb := hT0.c0
 obtain ⟨n, hn⟩ : ∃ n, n = l.length := ⟨_, rfl⟩
 rw [← hn] at cb
 have q1 : (at_ < n) = True := eq_true (by omega)
 have q2 : ((at_ : Int) < (n : Int)) = True := eq_true (by omega)
 obtain ⟨r0, r1, r2, r3, r4⟩ := (hbd).r
 have z0 := (hbd).fz 0; have z1 := (hbd).fz 1; have z2 := (hbd).fz 2; have z3 := (hbd).fz 3; have z4 := (hbd).fz 4
 have HX := zI (yI h (yI hbd (yI hf0 (yI hn (yI hs (yI hl hlo))))))
 clear hT0 hnd hbx hbd hf0
 clear h hx hat hn hs hl hlo
 go_enter Tryz.func119, Tryz.ntmps119
 go_wp2
 exact bodyPost_ret (v := .agg #[.int .i64 0, .string ⟨#[]⟩, .string ⟨#[]⟩, .int .i64 x.ver, .slice none 0 0]) (by simp [results, Tryz.results119, go_sem]) rfl (MeR.still HX.out.1 (r := ⟨0, [], [], x.ver, []⟩) (nv := .slice none 0 0) (((Fp.refl Non w).alloc _).alloc _) (Own.nil _ _))
set_option maxHeartbeats 4000000 in
theorem list_m {lo b G cap : Nat} {l : List Nd} {w : World} (h : Tn lo b G cap l w) (hs : Sp l) (hl : l.length ≤ 4000) (hlo : lo ≤ w.heap.size) (at_ : Nat) (hat : at_ < l.length) (x : Nd) (hx : l[at_] = x) (o : Opn) :
  Calls Tryz.prog 121 #[.pointer (some ⟨b, 0, none⟩), .int .i64 (at_ : Int), opV o] w (MeR lo b G l ⟨0, [], [], 0, (kids l o.path).map (fun n => last n.path)⟩ w) := by
 obtain ⟨kk, p, d, v, ow, t⟩ := o
 unfold opV strV
 have hbx := Bx.made w kk p d v ow t
 have hf0 : Fp Non w ((w.alloc (.cells #[.int .i64 kk, .string (B p), .string (B d), .int .i64 v, .int .i64 ow, .bool t] TO_)).alloc (.cells #[.int .i64 0, .string ⟨#[]⟩, .string ⟨#[]⟩, .int .i64 0, .slice none 0 0] TR)) := ((Fp.refl Non w).alloc _).alloc _
 have hT0 := h.non hf0
 have hbd := hbx
 have hnd := hT0.row.nd at_ hat
 rw [hx] at hnd
 have c0 := hnd.c0; have c1 := hnd.c1; have c2 := hnd.c2; have c3 := hnd.c3; have c4 := hnd.c4
 unfold strV at c0 c1
 simp only [Nat.zero_add] at c0 c1 c2 c3 c4
 have cb := hT0.c0
 obtain ⟨n, hn⟩ : ∃ n, n = l.length := ⟨_, rfl⟩
 rw [← hn] at cb
 have q1 : (at_ < n) = True := eq_true (by omega)
 have q2 : ((at_ : Int) < (n : Int)) = True := eq_true (by omega)
 obtain ⟨r0, r1, r2, r3, r4⟩ := (hbd).r
 have z0 := (hbd).fz 0; have z1 := (hbd).fz 1; have z2 := (hbd).fz 2; have z3 := (hbd).fz 3; have z4 := (hbd).fz 4
 have HX := zI (yI h (yI hbd (yI hf0 (yI hn (yI hs (yI hl hlo))))))
 clear hT0 hnd hbx hbd hf0
 have op1 : (((w.alloc (.cells #[.int .i64 kk, .string (B p), .string (B d), .int .i64 v, .int .i64 ow, .bool t] TO_)).alloc (.cells #[.int .i64 0, .string ⟨#[]⟩, .string ⟨#[]⟩, .int .i64 0, .slice none 0 0] TR))).cell? ⟨w.heap.size, 1, none⟩ = some (.string (B p)) := by rw [cell_of_row _ _ _ _ _ _ HX.out.2.1.op]; rfl
 clear h hx hat hn hs hl hlo c0 c1 c2 c3 c4
 go_enter Tryz.func121, Tryz.ntmps121
 generalize hW0 : ((w.alloc (.cells #[.int .i64 kk, .string (B p), .string (B d), .int .i64 v, .int .i64 ow, .bool t] TO_)).alloc (.cells #[.int .i64 0, .string ⟨#[]⟩, .string ⟨#[]⟩, .int .i64 0, .slice none 0 0] TR)) = W0 at *
 go_wp2_with fail
 clear hW0
 refine (childOf_c p W0).mono ?_
 rintro e w1 ⟨rfl, hw1⟩
 obtain rfl := hw1.symm
 have hf1 : Fp Non W0 (W0.alloc (.cells #[.string (B p)] 9)) := (Fp.refl Non W0).alloc _
 have hpd := childOf_pd p W0 Non (fun _ h => h.elim)
 have hnm := names_c ((HX.out.1.non HX.out.2.2.1).non hf1) HX.out.2.2.2.2.1 hpd HX.out.2.2.2.2.2.1
 have HNM := zI hnm
 have HF1 := zI (yI (HX.out.2.2.1.then hf1) hf1)
 clear hf1 hpd hnm hw1
 generalize W0.alloc (.cells #[.string (B p)] 9) = W1 at *
 go_wp2_with fail
 refine HNM.out.mono ?_
 rintro e w2 ⟨nv, rfl, hown, hf2⟩
 have hb2 := HX.out.2.1.non (HF1.out.2.then hf2)
 have hfw := HF1.out.1.then hf2
 obtain ⟨ps, hps⟩ : ∃ ps, ps = (kids l p).map (fun n => last n.path) := ⟨_, rfl⟩
 have hown2 : Own w.heap.size w2 nv ps := by rw [hps]; exact hown.low HF1.out.1.size
 have hnb := fun e => (hown.1.lt (w.heap.size + 1) e).1
 have HPS := zI hps
 obtain ⟨vao, vcap, hvs⟩ := hown2.shape
 clear r0 r1 r2 r3 r4 z0 z1 z2 z3 z4
 obtain ⟨r0, r1, r2, r3, r4⟩ := (hb2).r
 have z0 := (hb2).fz 0; have z1 := (hb2).fz 1; have z2 := (hb2).fz 2; have z3 := (hb2).fz 3; have z4 := (hb2).fz 4
 have HNE := zI (show nv.ownBlock = some (w.heap.size + 1) → False from fun e => by have h1 := hnb e; have h2 := HF1.out.2.size; have h3 := HX.out.2.1.sz; omega)
 have HE := zI (yI hb2.res (yI hfw hown2))
 clear hown hf2 hb2 hfw hown2 hnb hps
 subst hvs
 generalize w2 = W2 at *
 go_wp2
 have hw9 := set5 HE.out.1 (.int .i64 0) (.string ⟨#[]⟩) (.string ⟨#[]⟩) (.int .i64 0) (.slice vao ps.length vcap)
 have hf9 := fp5 (S := Non) HE.out.2.1 (b := w.heap.size + 1) (.inr (by omega)) (.int .i64 0) (.string ⟨#[]⟩) (.string ⟨#[]⟩) (.int .i64 0) (.slice vao ps.length vcap)
 have HO9 := own5 HE.out.2.2 (b := w.heap.size + 1) (fun e => HNE.out e) (.int .i64 0) (.string ⟨#[]⟩) (.string ⟨#[]⟩) (.int .i64 0) (.slice vao ps.length vcap)
 generalize (((((World.setCell W2 _ _).setCell _ _).setCell _ _).setCell _ _).setCell _ _) = w9 at *
 obtain ⟨s0, s1, s2, s3, s4⟩ := b5 hw9
 have hfown : Own w.heap.size w9 (.slice vao ps.length vcap) ps := HO9
 exact bodyPost_ret (v := .agg #[.int .i64 0, .string ⟨#[]⟩, .string ⟨#[]⟩, .int .i64 0, .slice vao ps.length vcap]) (by simp [results, Tryz.results121, go_sem, s0, s1, s2, s3, s4]) rfl (MeR.still HX.out.1 (r := ⟨0, [], [], 0, (kids l p).map (fun n => last n.path)⟩) hf9 (by rw [← HPS.out]; exact hfown))
end Go.Proofs.YtphoglepiegeiaaGreatDoor
namespace Go.Proofs.YtphoglepiegeiaaGreatDoor
set_option maxRecDepth 20000
open Go.RowKit Pm
theorem rows_set2 (l : List Nd) (i : Nat) (hi : i < l.length) (d : Bs) (v : Int) (rest : List Value) : (((rows l ++ rest).set (i * 5 + 1) (strV d)).set (i * 5 + 2) (.int .i64 v)) = rows (l.set i { l[i] with data := d, ver := v }) ++ rest := by
 induction l generalizing i with
 | nil => simp at hi
 | cons a l ih =>
  cases i with
  | zero => rw [List.set_cons_zero, rows_cons, rows_cons]; simp [ndC]
  | succ i => ?_
  rw [List.set_cons_succ, rows_cons, rows_cons, List.append_assoc, List.append_assoc]
  simp only [List.getElem_cons_succ]
  rw [← ih i (by simpa using hi)]
  simp only [show (i + 1) * 5 = 5 + i * 5 from by omega, show ∀ j, 5 + i * 5 + j = 5 + (i * 5 + j) from fun j => by omega]
  have e : ∀ (j : Nat) (v : Value) (m : List Value), (ndC a ++ m).set (5 + j) v = ndC a ++ m.set j v := fun j v m => by
   rw [List.set_append_right _ _ (by rw [ndC_len]; omega), ndC_len, Nat.add_sub_cancel_left]
  rw [e, e]
theorem Nr.put2 {w : World} {G cap : Nat} {l : List Nd} (h : Nr w G cap l) (i : Nat) (hi : i < l.length) (d : Bs) (v : Int) :
  Nr ((w.setCell ⟨G, i * 5 + 1, none⟩ (strV d)).setCell ⟨G, i * 5 + 2, none⟩ (.int .i64 v)) G cap (l.set i { l[i] with data := d, ver := v }) := by
 obtain ⟨rest, hg, hrl⟩ := h.ex
 have h1 := heap_setCell_same w G (i * 5 + 1) _ TN (strV d) hg
 have h2 := heap_setCell_same _ G (i * 5 + 2) _ TN (.int .i64 v) h1
 refine ⟨⟨rest, ?_, by rw [List.length_set]; exact hrl⟩, by rw [List.length_set]; exact h.room, h.most⟩
 rw [h2, ← rows_set2 l i hi d v rest]
 simp [List.setIfInBounds_toArray]
theorem Tn.row' {lo b G cap : Nat} {l l' : List Nd} {w w' : World} (h : Tn lo b G cap l w) (f : Fp (fun k => k = G) w w') (hr : Nr w' G cap l') (hl : l'.length = l.length) : Tn lo b G cap l' w' :=
 ⟨by rw [hl]; exact f.heap h.blk (fun e => h.ne e), h.low, h.lowG, h.ne, hr⟩
theorem MeR.of {lo b G G' cap' : Nat} {l' : List Nd} {w w' : World} {r : Res} {nv : Value} (ht : Tn lo b G' cap' l' w') (hg : G' = G ∨ w.heap.size ≤ G') (f : Fp (ownT b G) w w') (ho : Own w.heap.size w' nv r.names) :
  MeR lo b G l' r w (.returned (.agg #[.int .i64 r.err, strV r.path, strV r.data, .int .i64 r.ver, nv])) w' := ⟨⟨nv, G', cap', rfl, ho, ht, hg⟩, f⟩
theorem Tn.put {lo b G G' cap cap' : Nat} {l l' : List Nd} {w w' : World} (h : Tn lo b G cap l w) (f : Fp (fun k => k = G) w w') (hr : Nr w' G' cap' l') (hlo : lo ≤ G') (hne : b ≠ G') :
  Tn lo b G' cap' l' (w'.setCell ⟨b, 0, none⟩ (.slice (some ⟨G', 0, none⟩) l'.length cap')) ∧ Fp (ownT b G) w (w'.setCell ⟨b, 0, none⟩ (.slice (some ⟨G', 0, none⟩) l'.length cap')) := by
 have hb := f.heap h.blk (fun e => h.ne e)
 have hf : Fp (fun k => k = b) w' (w'.setCell ⟨b, 0, none⟩ (.slice (some ⟨G', 0, none⟩) l'.length cap')) := (Fp.refl (fun k => k = b) w').setCell (p := ⟨b, 0, none⟩) (.inl rfl) _
 refine ⟨⟨heap_setCell_same w' b 0 _ TT _ hb, h.low, hlo, hne, hr.keep hf (fun e => hne e.symm)⟩, ?_⟩
 exact (f.mono (T := ownT b G) (fun k hk => .inr hk)).same (hf.mono (fun k hk => .inl hk))
theorem kids_any (l : List Nd) (p : Bs) : l.any (fun n => parent n.path == some p) = false ↔ kids l p = [] := by
 unfold kids
 rw [List.any_eq_false, List.filter_eq_nil_iff]
set_option maxHeartbeats 4000000 in
theorem set_m {lo b G cap : Nat} {l : List Nd} {w : World} (h : Tn lo b G cap l w) (hs : Sp l) (hl : l.length ≤ 4000) (hlo : lo ≤ w.heap.size) (at_ : Nat) (hat : at_ < l.length) (x : Nd) (hx : l[at_] = x) (o : Opn) (hv : 0 ≤ x.ver ∧ x.ver ≤ 281474976710656) :
  Calls Tryz.prog 118 #[.pointer (some ⟨b, 0, none⟩), .int .i64 (at_ : Int), opV o] w (MeR lo b G (if x.ver = 281474976710656 then l else l.set at_ { x with data := o.data, ver := x.ver + 1 }) (if x.ver = 281474976710656 then .bad 2 else ⟨0, [], [], x.ver + 1, []⟩) w) := by
 obtain ⟨kk, p, d, v, ow, t⟩ := o
 unfold opV strV
 have hbx := Bx.made w kk p d v ow t
 have hf0 : Fp Non w ((w.alloc (.cells #[.int .i64 kk, .string (B p), .string (B d), .int .i64 v, .int .i64 ow, .bool t] TO_)).alloc (.cells #[.int .i64 0, .string ⟨#[]⟩, .string ⟨#[]⟩, .int .i64 0, .slice none 0 0] TR)) := ((Fp.refl Non w).alloc _).alloc _
 have hT0 := h.non hf0
 have hbd := hbx
 have hnd := hT0.row.nd at_ hat
 rw [hx] at hnd
 have c0 := hnd.c0; have c1 := hnd.c1; have c2 := hnd.c2; have c3 := hnd.c3; have c4 := hnd.c4
 unfold strV at c0 c1
 simp only [Nat.zero_add] at c0 c1 c2 c3 c4
 have cb := hT0.c0
 obtain ⟨n, hn⟩ : ∃ n, n = l.length := ⟨_, rfl⟩
 rw [← hn] at cb
 have q1 : (at_ < n) = True := eq_true (by omega)
 have q2 : ((at_ : Int) < (n : Int)) = True := eq_true (by omega)
 obtain ⟨r0, r1, r2, r3, r4⟩ := (hbd).r
 have z0 := (hbd).fz 0; have z1 := (hbd).fz 1; have z2 := (hbd).fz 2; have z3 := (hbd).fz 3; have z4 := (hbd).fz 4
 have HX := zI (yI h (yI hbd (yI hf0 (yI hn (yI hs (yI hl hlo))))))
 have fG1 := hT0.row.frozen (at_ * 5 + 1)
 have fG2 := hT0.row.frozen (at_ * 5 + 2)
 have op2 : (((w.alloc (.cells #[.int .i64 kk, .string (B p), .string (B d), .int .i64 v, .int .i64 ow, .bool t] TO_)).alloc (.cells #[.int .i64 0, .string ⟨#[]⟩, .string ⟨#[]⟩, .int .i64 0, .slice none 0 0] TR))).cell? ⟨w.heap.size, 2, none⟩ = some (.string (B d)) := by rw [cell_of_row _ _ _ _ _ _ hbd.op]; rfl
 clear hT0 hnd hbx hbd hf0
 have HA := zI (yI hat hx)
 show Calls _ _ _ _ (MeR lo b G (if x.ver = 281474976710656 then l else l.set at_ { x with data := d, ver := x.ver + 1 }) _ w)
 obtain ⟨xp, xd, xv, xt, xo⟩ := x
 simp only at hv c0 c1 c2 c3 c4
 by_cases hvm : xv = 281474976710656
 ·have q3 : (xv == 281474976710656) = true := beq_iff_eq.2 hvm
  have q4 : (xv = 281474976710656) = True := eq_true hvm
  simp only [hvm, if_true]
  clear h hx hn hs hl hlo hv hvm
  go_enter Tryz.func118, Tryz.ntmps118
  generalize hW0 : ((w.alloc (.cells #[.int .i64 kk, .string (B p), .string (B d), .int .i64 v, .int .i64 ow, .bool t] TO_)).alloc (.cells #[.int .i64 0, .string ⟨#[]⟩, .string ⟨#[]⟩, .int .i64 0, .slice none 0 0] TR)) = W0 at *
  go_wp2_with fail
  refine (refused_c 2 _).mono ?_
  rintro e w2 ⟨rfl, hf2⟩
  have hb2 := HX.out.2.1.non hf2
  have hfw := HX.out.2.2.1.then hf2
  clear r0 r1 r2 r3 r4 z0 z1 z2 z3 z4
  obtain ⟨r0, r1, r2, r3, r4⟩ := (hb2).r
  have z0 := (hb2).fz 0; have z1 := (hb2).fz 1; have z2 := (hb2).fz 2; have z3 := (hb2).fz 3; have z4 := (hb2).fz 4
  have HE := zI (yI hb2.res hfw)
  unfold badV
  clear hf2 hb2 hfw
  generalize w2 = W2 at *
  go_wp2
  have hw9 := set5 HE.out.1 (.int .i64 2) (.string ⟨#[]⟩) (.string ⟨#[]⟩) (.int .i64 0) (.slice none 0 0)
  have hf9 := fp5 (S := Non) HE.out.2 (b := w.heap.size + 1) (.inr (by omega)) (.int .i64 2) (.string ⟨#[]⟩) (.string ⟨#[]⟩) (.int .i64 0) (.slice none 0 0)
  generalize (((((World.setCell W2 _ _).setCell _ _).setCell _ _).setCell _ _).setCell _ _) = w9 at *
  obtain ⟨s0, s1, s2, s3, s4⟩ := b5 hw9
  exact bodyPost_ret (v := .agg #[.int .i64 2, .string ⟨#[]⟩, .string ⟨#[]⟩, .int .i64 0, .slice none 0 0]) (by simp [results, Tryz.results118, go_sem, s0, s1, s2, s3, s4]) rfl (MeR.still HX.out.1 (r := .bad 2) (nv := .slice none 0 0) hf9 (Own.nil _ _))
 have q3 : (xv == 281474976710656) = false := beq_eq_false_iff_ne.2 hvm
 have q4 : (xv = 281474976710656) = False := eq_false hvm
 simp only [q4, if_false]
 have hxv := hv
 have hGl := h.row.lt
 have n1 : (G = w.heap.size + 1) = False := eq_false (by omega)
 have n2 : (w.heap.size + 1 = G) = False := eq_false (by omega)
 have n3 : (G = w.heap.size) = False := eq_false (by omega)
 have n4 : (w.heap.size = G) = False := eq_false (by omega)
 clear h hx hn hs hl hlo hv hvm
 go_enter Tryz.func118, Tryz.ntmps118
 generalize hW0 : ((w.alloc (.cells #[.int .i64 kk, .string (B p), .string (B d), .int .i64 v, .int .i64 ow, .bool t] TO_)).alloc (.cells #[.int .i64 0, .string ⟨#[]⟩, .string ⟨#[]⟩, .int .i64 0, .slice none 0 0] TR)) = W0 at *
 go_wp2_with fail
 have hrow := HX.out.1.non HX.out.2.2.1
 have hput := hrow.row.put2 at_ HA.out.1 d (xv + 1)
 rw [HA.out.2] at hput
 have hfG : Fp (fun k => k = G) W0 ((W0.setCell ⟨G, at_ * 5 + 1, none⟩ (strV d)).setCell ⟨G, at_ * 5 + 2, none⟩ (.int .i64 (xv + 1))) := ((Fp.refl (fun k => k = G) W0).setCell (p := ⟨G, at_ * 5 + 1, none⟩) (.inl rfl) _).setCell (p := ⟨G, at_ * 5 + 2, none⟩) (.inl rfl) _
 have hT := hrow.row' hfG hput (by rw [List.length_set])
 have hbT := HX.out.2.1.keep hfG (fun k hk => .inl (by rw [hk]; exact HX.out.1.row.lt))
 have hfT := (HX.out.2.2.1.any (S := ownT b G)).same (hfG.mono (T := ownT b G) (fun k hk => .inr hk))
 unfold strV at hT hbT hfT
 have HE := zI (yI hbT.res (yI hfT hT))
 clear hrow hput hfG hT hbT hfT
 generalize ((W0.setCell ⟨G, at_ * 5 + 1, none⟩ _).setCell ⟨G, at_ * 5 + 2, none⟩ _) = W2 at *
 go_wp2
 have hw9 := set5 HE.out.1 (.int .i64 0) (.string ⟨#[]⟩) (.string ⟨#[]⟩) (.int .i64 (xv + 1)) (.slice none 0 0)
 have hf9 := fp5 (S := ownT b G) HE.out.2.1 (b := w.heap.size + 1) (.inr (by omega)) (.int .i64 0) (.string ⟨#[]⟩) (.string ⟨#[]⟩) (.int .i64 (xv + 1)) (.slice none 0 0)
 have hT9 := HE.out.2.2.keep (fp5 (S := fun k => k = w.heap.size + 1) (Fp.refl _ W2) (b := w.heap.size + 1) (.inl rfl) (.int .i64 0) (.string ⟨#[]⟩) (.string ⟨#[]⟩) (.int .i64 (xv + 1)) (.slice none 0 0)) (fun e => by have := HX.out.1.lt; omega) (fun e => by have := HX.out.1.row.lt; omega)
 generalize (((((World.setCell W2 _ _).setCell _ _).setCell _ _).setCell _ _).setCell _ _) = w9 at *
 obtain ⟨s0, s1, s2, s3, s4⟩ := b5 hw9
 exact bodyPost_ret (v := .agg #[.int .i64 0, .string ⟨#[]⟩, .string ⟨#[]⟩, .int .i64 (xv + 1), .slice none 0 0]) (by simp [results, Tryz.results118, go_sem, s0, s1, s2, s3, s4]) rfl (MeR.of (r := ⟨0, [], [], xv + 1, []⟩) (nv := .slice none 0 0) hT9 (.inl rfl) hf9 (Own.nil _ _))
set_option maxHeartbeats 4000000 in
theorem remove_m {lo b G cap : Nat} {l : List Nd} {w : World} (h : Tn lo b G cap l w) (hs : Sp l) (hl : l.length ≤ 4000) (hlo : lo ≤ w.heap.size) (at_ : Nat) (hat : at_ < l.length) (x : Nd) (hx : l[at_] = x) (o : Opn) :
  Calls Tryz.prog 117 #[.pointer (some ⟨b, 0, none⟩), .int .i64 (at_ : Int), opV o] w (MeR lo b G (if kids l o.path = [] then l.eraseIdx at_ else l) (if kids l o.path = [] then ⟨0, [], [], 0, []⟩ else .bad 64) w) := by
 obtain ⟨kk, p, d, v, ow, t⟩ := o
 unfold opV strV
 have hbx := Bx.made w kk p d v ow t
 have hf0 : Fp Non w ((w.alloc (.cells #[.int .i64 kk, .string (B p), .string (B d), .int .i64 v, .int .i64 ow, .bool t] TO_)).alloc (.cells #[.int .i64 0, .string ⟨#[]⟩, .string ⟨#[]⟩, .int .i64 0, .slice none 0 0] TR)) := ((Fp.refl Non w).alloc _).alloc _
 have hT0 := h.non hf0
 have hbd := hbx
 have hnd := hT0.row.nd at_ hat
 rw [hx] at hnd
 have c0 := hnd.c0; have c1 := hnd.c1; have c2 := hnd.c2; have c3 := hnd.c3; have c4 := hnd.c4
 unfold strV at c0 c1
 simp only [Nat.zero_add] at c0 c1 c2 c3 c4
 have cb := hT0.c0
 obtain ⟨n, hn⟩ : ∃ n, n = l.length := ⟨_, rfl⟩
 rw [← hn] at cb
 have q1 : (at_ < n) = True := eq_true (by omega)
 have q2 : ((at_ : Int) < (n : Int)) = True := eq_true (by omega)
 obtain ⟨r0, r1, r2, r3, r4⟩ := (hbd).r
 have z0 := (hbd).fz 0; have z1 := (hbd).fz 1; have z2 := (hbd).fz 2; have z3 := (hbd).fz 3; have z4 := (hbd).fz 4
 have HX := zI (yI h (yI hbd (yI hf0 (yI hn (yI hs (yI hl hlo))))))
 have op1 : (((w.alloc (.cells #[.int .i64 kk, .string (B p), .string (B d), .int .i64 v, .int .i64 ow, .bool t] TO_)).alloc (.cells #[.int .i64 0, .string ⟨#[]⟩, .string ⟨#[]⟩, .int .i64 0, .slice none 0 0] TR))).cell? ⟨w.heap.size, 1, none⟩ = some (.string (B p)) := by rw [cell_of_row _ _ _ _ _ _ hbd.op]; rfl
 clear hT0 hnd hbx hbd hf0
 show Calls _ _ _ _ (MeR lo b G (if kids l p = [] then l.eraseIdx at_ else l) (if kids l p = [] then _ else _) w)
 obtain ⟨c, hc⟩ : ∃ c, l.any (fun n => parent n.path == some p) = c := ⟨_, rfl⟩
 have HAT := zI (yI hat hc)
 have hab : at_ ≤ 4000 := by omega
 have hGl := h.row.lt
 have hbl := h.lt
 have hT := h
 have hsl := hs
 have hll := hl
 have HN2 := zI hn
 have hif : (kids l p = []) = (c = false) := by rw [← hc]; exact (propext (kids_any l p)).symm
 simp only [hif]
 obtain ⟨l', hl'⟩ : ∃ l', (if c = false then l.eraseIdx at_ else l) = l' := ⟨_, rfl⟩
 obtain ⟨r', hr'⟩ : ∃ r' : Res, (if c = false then ⟨0, [], [], 0, []⟩ else .bad 64) = r' := ⟨_, rfl⟩
 rw [hl', hr']
 have HLR : Hid ((c = false → l' = l.eraseIdx at_ ∧ r' = ⟨0, [], [], 0, []⟩) ∧ (c = true → l' = l ∧ r' = .bad 64)) := ⟨fun e => by rw [← hl', ← hr']; simp [e], fun e => by rw [← hl', ← hr']; simp [e]⟩
 clear h hx hn hs hl c0 c1 c2 c3 c4 r0 r1 r2 r3 r4 z0 z1 z2 z3 z4 hif hc hat hl' hr'
 go_enter Tryz.func117, Tryz.ntmps117
 generalize hW0 : ((w.alloc (.cells #[.int .i64 kk, .string (B p), .string (B d), .int .i64 v, .int .i64 ow, .bool t] TO_)).alloc (.cells #[.int .i64 0, .string ⟨#[]⟩, .string ⟨#[]⟩, .int .i64 0, .slice none 0 0] TR)) = W0 at *
 go_wp2_with fail
 clear hW0
 have HFD : Hid (Fp Non W0 W0.drew) := (Fp.refl Non W0).drew
 refine wp_region_held_drew (S := (fun w' => w'.cell? ⟨b, 0, none⟩ = some (.slice (some ⟨G, 0, none⟩) n cap) ∧ w'.cell? ⟨w.heap.size, 1, none⟩ = some (.string (B p)))) (by kernel_rfl) ?_ (fun hH => ?_)
 ·exact ⟨(HX.out.1.non (HX.out.2.2.1.then (Fp.refl Non W0).drew)).c0 |> fun h => by rw [← HN2.out] at h; exact h, (Fp.refl Non W0).drew.cell op1 id⟩
 generalize W0.drew = Wd at *
 refine tk 0 hH ?_
 refine tk 1 hH ?_
 refine tk 2 hH ?_
 refine tk 3 hH ?_
 refine tk 4 hH ?_
 refine tk 5 hH ?_
 refine rY 6 fun K hK => ?_
 go_simp
 go_at_call 156
 refine (childOf_c p _).mono ?_
 rintro e w1 ⟨rfl, hw1⟩
 obtain rfl := hw1.symm
 have hf1 : Fp Non W0 (Wd.alloc (.cells #[.string (B p)] 9)) := HFD.out.alloc _
 have hpd := childOf_pd p Wd Non (fun _ h => h.elim)
 have hT1 := (hT.non HX.out.2.2.1).non hf1
 have hcf := ContainsFunc_c _ _ l _ _ hT1.row.ns hsl hpd (by omega)
 rw [HAT.out.2, ← HN2.out] at hcf
 have HCF := zI hcf
 have HS1 : Hid (_ ∧ _) := ⟨(by have := hT1.c0; rw [← HN2.out] at this; exact this), hf1.cell op1 id⟩
 have HF1 := zI (yI hf1 hT1)
 clear hf1 hpd hcf hw1 hT1
 go_wp2_with fail
 refine hK.out _ _ HS1.out (fun hH => ?_)
 clear hK K
 try simp only [zz]
 refine rY 7 fun K hK => ?_
 go_simp
 go_at_call 131
 refine HCF.out.mono ?_
 rintro e w2 ⟨rfl, hf2⟩
 have hS2 := HS1.out
 have HS2 : Hid (_ ∧ _) := ⟨hf2.cell hS2.1 id, hf2.cell hS2.2 id⟩
 have HF2 := zI (yI (HF1.out.1.then hf2) (HF1.out.2.non hf2))
 clear hf2 hS2 HF1 HS1
 go_wp2_with fail
 refine hK.out _ _ HS2.out (fun hH => ?_)
 clear hK K
 try simp only [zz]
 refine dn ?_
 have hb2 := HX.out.2.1.non HF2.out.1
 have hfw2 := HX.out.2.2.1.then HF2.out.1
 obtain ⟨r0, r1, r2, r3, r4⟩ := hb2.r
 have z0 := hb2.fz 0; have z1 := hb2.fz 1; have z2 := hb2.fz 2; have z3 := hb2.fz 3; have z4 := hb2.fz 4
 have HX2 := zI (yI hb2 (yI hfw2 HF2.out.2))
 clear hb2 hfw2 cb op1
 cases c with
 | true =>
  have HA9 := zI (HLR.out.2 rfl)
  clear HLR
  go_wp2_with fail
  refine (refused_c 64 _).mono ?_
  rintro e w2 ⟨rfl, hf2⟩
  have hb2 := HX2.out.1.non hf2
  have hfw := HX2.out.2.1.then hf2
  clear r0 r1 r2 r3 r4 z0 z1 z2 z3 z4
  obtain ⟨r0, r1, r2, r3, r4⟩ := (hb2).r
  have z0 := (hb2).fz 0; have z1 := (hb2).fz 1; have z2 := (hb2).fz 2; have z3 := (hb2).fz 3; have z4 := (hb2).fz 4
  have HE := zI (yI hb2.res hfw)
  unfold badV
  clear hf2 hb2 hfw
  generalize w2 = W2 at *
  go_wp2
  have hw9 := set5 HE.out.1 (.int .i64 64) (.string ⟨#[]⟩) (.string ⟨#[]⟩) (.int .i64 0) (.slice none 0 0)
  have hf9 := fp5 (S := Non) HE.out.2 (b := w.heap.size + 1) (.inr (by omega)) (.int .i64 64) (.string ⟨#[]⟩) (.string ⟨#[]⟩) (.int .i64 0) (.slice none 0 0)
  generalize (((((World.setCell W2 _ _).setCell _ _).setCell _ _).setCell _ _).setCell _ _) = w9 at *
  obtain ⟨s0, s1, s2, s3, s4⟩ := b5 hw9
  exact bodyPost_ret (v := .agg #[.int .i64 64, .string ⟨#[]⟩, .string ⟨#[]⟩, .int .i64 0, .slice none 0 0]) (by simp [results, Tryz.results117, go_sem, s0, s1, s2, s3, s4]) rfl (by rw [HA9.out.1, HA9.out.2]; exact MeR.still HX.out.1 (r := .bad 64) (nv := .slice none 0 0) hf9 (Own.nil _ _))
 | false => ?_
 have HA9 := zI (HLR.out.1 rfl)
 clear HLR
 have hT2 := HX2.out.2.2
 have hdl := Delete_c hT2.row at_ HAT.out.1 hll
 rw [← HN2.out] at hdl
 have HDL := zI hdl
 have cb2 := hT2.c0
 rw [← HN2.out] at cb2
 have fb2 := hT2.fz
 clear hdl hT2
 go_wp2_with fail
 refine HDL.out.mono ?_
 rintro e w3 ⟨rfl, hrow3, hf3⟩
 have hel : (l.eraseIdx at_).length = n - 1 := by rw [List.length_eraseIdx, if_pos HAT.out.1, HN2.out]
 have hput := HX2.out.2.2.put hf3 hrow3 HX2.out.2.2.lowG HX2.out.2.2.ne
 rw [hel] at hput
 have cb3 := hf3.cell cb2 (fun e => hT.ne e)
 have fb3 : w3.frozen? ⟨b, 0, none⟩ = false := by have := hf3.heap HX2.out.2.2.blk (fun e => hT.ne e); simp [World.frozen?, this]
 have hb4 := (HX2.out.1.keep hf3 (fun k hk => .inl (by rw [hk]; exact hGl))).keep ((Fp.refl (fun k => k = b) w3).setCell (p := ⟨b, 0, none⟩) (.inl rfl) (.slice (some ⟨G, 0, none⟩) (n - 1) cap)) (fun k hk => .inl (by rw [hk]; exact hbl))
 have HE := zI (yI hb4.res (yI ((HX2.out.2.1.any (S := ownT b G)).same hput.2) hput.1))
 clear r0 r1 r2 r3 r4 z0 z1 z2 z3 z4
 obtain ⟨r0, r1, r2, r3, r4⟩ := (hb4).r
 have z0 := (hb4).fz 0; have z1 := (hb4).fz 1; have z2 := (hb4).fz 2; have z3 := (hb4).fz 3; have z4 := (hb4).fz 4
 have hT9 := hput.1.keep (fp5 (S := fun k => k = w.heap.size + 1) (Fp.refl _ _) (b := w.heap.size + 1) (.inl rfl) (.int .i64 0) (.string ⟨#[]⟩) (.string ⟨#[]⟩) (.int .i64 0) (.slice none 0 0)) (fun e => by have := hT.lt; omega) (fun e => by have := hT.row.lt; omega)
 have HT9 := zI hT9
 clear hrow3 hf3 hel hput hb4 cb2 fb2 hT9 hT hbl hGl
 go_wp2_with fail
 clear cb3 fb3
 generalize (w3.setCell ⟨b, 0, none⟩ _) = W4 at *
 go_wp2
 have hw9 := set5 HE.out.1 (.int .i64 0) (.string ⟨#[]⟩) (.string ⟨#[]⟩) (.int .i64 0) (.slice none 0 0)
 have hf9 := fp5 (S := ownT b G) HE.out.2.1 (b := w.heap.size + 1) (.inr (by omega)) (.int .i64 0) (.string ⟨#[]⟩) (.string ⟨#[]⟩) (.int .i64 0) (.slice none 0 0)
 generalize (((((World.setCell W4 _ _).setCell _ _).setCell _ _).setCell _ _).setCell _ _) = w9 at *
 obtain ⟨s0, s1, s2, s3, s4⟩ := b5 hw9
 exact bodyPost_ret (v := .agg #[.int .i64 0, .string ⟨#[]⟩, .string ⟨#[]⟩, .int .i64 0, .slice none 0 0]) (by simp [results, Tryz.results117, go_sem, s0, s1, s2, s3, s4]) rfl (by rw [HA9.out.1, HA9.out.2]; exact MeR.of (r := ⟨0, [], [], 0, []⟩) (nv := .slice none 0 0) HT9.out (.inl rfl) hf9 (Own.nil _ _))
abbrev chV (k : Nat) : Value := .func (.func 178) #[] #[.pointer (some ⟨k, 0, none⟩)]
set_option maxHeartbeats 2000000 in
theorem sweep1_c (n : Nd) (g c k : Nat) (p : Bs) (ow : Int) (w : World) (hn : n.path.length ≤ 1000000) (hg : w.cell? ⟨g, 4, none⟩ = some (.int .i64 ow)) (hc : w.cell? ⟨c, 0, none⟩ = some (chV k)) (hk : w.cell? ⟨k, 0, none⟩ = some (.string (B p))) :
  Calls Tryz.prog 159 #[ndV n, .pointer (some ⟨g, 0, none⟩), .pointer (some ⟨c, 0, none⟩)] w fun e w' => e = .returned (.bool (n.own == ow && parent n.path == some p)) ∧ Fp Non w w' := by
 have hch := fun w (h : w.cell? ⟨k, 0, none⟩ = some (.string (B p))) => child1_c n k p w hn h
 obtain ⟨np, d, v, t, o⟩ := n
 unfold ndV strV
 unfold ndV strV at hch
 simp only at hch
 have hf : ∀ o, Fp Non w (w.alloc o) := fun o => (Fp.refl Non w).alloc o
 have HF := zI hf
 have HC := zI hch
 have HK := zI hk
 show Calls _ _ _ _ (fun e w' => e = .returned (.bool (o == ow && parent np == some p)) ∧ _)
 obtain ⟨cb, hcb⟩ : ∃ cb, (o == ow) = cb := ⟨_, rfl⟩
 obtain ⟨cp, hcp⟩ : ∃ cp, (parent np == some p) = cp := ⟨_, rfl⟩
 have q0 : (o = ow) = (cb = true) := by rw [← hcb]; simp
 rw [hcp] at HC
 rw [hcb, hcp]
 have g1 := fun o => (hf o).cell hg id
 have g2 := fun o => (hf o).cell hc id
 clear hg hc
 clear hf hch hk hn hcp
 cases cb
 ·have q2 : (o = ow) = False := by rw [q0]; simp
  clear q0
  go_enter Tryz.func159, Tryz.ntmps159
  go_wp2
  go_ret
  exact ⟨rfl, HF.out _⟩
 have q2 : (o = ow) = True := by rw [q0]; simp
 clear q0
 go_enter Tryz.func159, Tryz.ntmps159
 go_wp2_with fail
 refine (HC.out _ ((HF.out _).cell HK.out id)).mono ?_
 rintro e w2 ⟨rfl, hf2⟩
 have F := zI ((HF.out _).then hf2)
 clear hf2
 go_wp2
 go_ret
 exact ⟨rfl, F.out⟩
theorem sweep_pd (g c k : Nat) (p : Bs) (ow : Int) (w : World) (S : Nat → Prop) (hg : w.cell? ⟨g, 4, none⟩ = some (.int .i64 ow)) (hc : w.cell? ⟨c, 0, none⟩ = some (chV k)) (hk : w.cell? ⟨k, 0, none⟩ = some (.string (B p)))
  (h1 : ¬ S g) (h2 : ¬ S c) (h3 : ¬ S k) : Pd S w (.func (.func 159) #[] #[.pointer (some ⟨g, 0, none⟩), .pointer (some ⟨c, 0, none⟩)]) (fun n => n.own == ow && parent n.path == some p) :=
 ⟨_, _, _, rfl, enters_of Tryz.func159 (by kernel_rfl) rfl, fun n w1 hn hf => sweep1_c n g c k p ow w1 hn (hf.cell hg h1) (hf.cell hc h2) (hf.cell hk h3)⟩
set_option maxHeartbeats 4000000 in
theorem sweep_m {lo b G cap : Nat} {l : List Nd} {w : World} (h : Tn lo b G cap l w) (hs : Sp l) (hl : l.length ≤ 4000) (hlo : lo ≤ w.heap.size) (at_ : Nat) (hat : at_ < l.length) (x : Nd) (hx : l[at_] = x) (o : Opn) :
  Calls Tryz.prog 122 #[.pointer (some ⟨b, 0, none⟩), .int .i64 (at_ : Int), opV o] w (MeR lo b G (l.filter (fun n => !swept o n)) ⟨0, [], [], 0, (l.filter (swept o)).map (fun n => last n.path)⟩ w) := by
 obtain ⟨kk, p, d, v, ow, t⟩ := o
 unfold opV strV
 have hbx := Bx.made w kk p d v ow t
 have hf0 : Fp Non w ((w.alloc (.cells #[.int .i64 kk, .string (B p), .string (B d), .int .i64 v, .int .i64 ow, .bool t] TO_)).alloc (.cells #[.int .i64 0, .string ⟨#[]⟩, .string ⟨#[]⟩, .int .i64 0, .slice none 0 0] TR)) := ((Fp.refl Non w).alloc _).alloc _
 have hT0 := h.non hf0
 have hbd := hbx
 have hnd := hT0.row.nd at_ hat
 rw [hx] at hnd
 have c0 := hnd.c0; have c1 := hnd.c1; have c2 := hnd.c2; have c3 := hnd.c3; have c4 := hnd.c4
 unfold strV at c0 c1
 simp only [Nat.zero_add] at c0 c1 c2 c3 c4
 have cb := hT0.c0
 obtain ⟨n, hn⟩ : ∃ n, n = l.length := ⟨_, rfl⟩
 rw [← hn] at cb
 have q1 : (at_ < n) = True := eq_true (by omega)
 have q2 : ((at_ : Int) < (n : Int)) = True := eq_true (by omega)
 obtain ⟨r0, r1, r2, r3, r4⟩ := (hbd).r
 have z0 := (hbd).fz 0; have z1 := (hbd).fz 1; have z2 := (hbd).fz 2; have z3 := (hbd).fz 3; have z4 := (hbd).fz 4
 have HX := zI (yI h (yI hbd (yI hf0 (yI hn (yI hs (yI hl hlo))))))
 have op1 : (((w.alloc (.cells #[.int .i64 kk, .string (B p), .string (B d), .int .i64 v, .int .i64 ow, .bool t] TO_)).alloc (.cells #[.int .i64 0, .string ⟨#[]⟩, .string ⟨#[]⟩, .int .i64 0, .slice none 0 0] TR))).cell? ⟨w.heap.size, 1, none⟩ = some (.string (B p)) := by rw [cell_of_row _ _ _ _ _ _ hbd.op]; rfl
 have op4 : (((w.alloc (.cells #[.int .i64 kk, .string (B p), .string (B d), .int .i64 v, .int .i64 ow, .bool t] TO_)).alloc (.cells #[.int .i64 0, .string ⟨#[]⟩, .string ⟨#[]⟩, .int .i64 0, .slice none 0 0] TR))).cell? ⟨w.heap.size, 4, none⟩ = some (.int .i64 ow) := by rw [cell_of_row _ _ _ _ _ _ hbd.op]; rfl
 clear hT0 hnd hbx hbd hf0
 show Calls _ _ _ _ (MeR lo b G (l.filter (fun n => !(n.own == ow && parent n.path == some p))) ⟨0, [], [], 0, (l.filter (fun n => n.own == ow && parent n.path == some p)).map (fun n => last n.path)⟩ w)
 clear h hx hat hn hs hl hlo c0 c1 c2 c3 c4
 go_enter Tryz.func122, Tryz.ntmps122
 generalize hW0 : ((w.alloc (.cells #[.int .i64 kk, .string (B p), .string (B d), .int .i64 v, .int .i64 ow, .bool t] TO_)).alloc (.cells #[.int .i64 0, .string ⟨#[]⟩, .string ⟨#[]⟩, .int .i64 0, .slice none 0 0] TR)) = W0 at *
 go_wp2_with fail
 clear hW0
 refine (childOf_c p W0).mono ?_
 rintro e w1 ⟨rfl, hw1⟩
 obtain rfl := hw1.symm
 have hf1 : Fp Non W0 (W0.alloc (.cells #[.string (B p)] 9)) := (Fp.refl Non W0).alloc _
 have hk1 : (W0.alloc (.cells #[.string (B p)] 9)).cell? ⟨W0.heap.size, 0, none⟩ = some (.string (B p)) := by rw [cell_of_row _ _ _ _ _ _ (heap_alloc_new W0 _)]; rfl
 have cb1 := hf1.cell cb id
 have HW1 := zI (yI hf1 (yI hk1 (show (W0.alloc (.cells #[.string (B p)] 9)).heap.size = W0.heap.size + 1 by simp)))
 have HO := zI (yI op1 op4)
 have HGl := zI (show G < w.heap.size from HX.out.1.row.lt)
 clear hw1 hf1 hk1 op1 op4 cb r0 r1 r2 r3 r4 z0 z1 z2 z3 z4
 generalize W0.alloc (.cells #[.string (B p)] 9) = w1 at *
 go_wp2_with fail
 have hf2 : Fp Non w1 (w1.alloc (.cells #[chV W0.heap.size] 95)) := (Fp.refl Non w1).alloc _
 have hc2 : (w1.alloc (.cells #[chV W0.heap.size] 95)).cell? ⟨w1.heap.size, 0, none⟩ = some (chV W0.heap.size) := by rw [cell_of_row _ _ _ _ _ _ (heap_alloc_new w1 _)]; rfl
 have hfw := HW1.out.1.then hf2
 have hpd := sweep_pd w.heap.size w1.heap.size W0.heap.size p ow _ (fun k => k = G) (hfw.cell HO.out.2 id) hc2 (hf2.cell HW1.out.2.1 id) (fun e => by have := HGl.out; omega) (fun e => by have h1 := HGl.out; have h2 := HW1.out.2.2; have h3 := HX.out.2.1.sz; omega) (fun e => by have h1 := HGl.out; have h3 := HX.out.2.1.sz; omega)
 have hnm := names_c ((HX.out.1.non HX.out.2.2.1).non hfw) HX.out.2.2.2.2.1 hpd.non HX.out.2.2.2.2.2.1
 have cb2 := hf2.cell cb1 id
 have HNM := zI hnm
 have HPD := zI hpd
 have HFW := zI (yI (HX.out.2.2.1.then hfw) (yI hfw cb2))
 clear hf2 hc2 hfw hpd hnm cb1 cb2
 generalize w1.alloc (.cells #[chV W0.heap.size] 95) = w2 at *
 refine HNM.out.mono ?_
 rintro e w3 ⟨nv, rfl, hown, hf3⟩
 have hfw3 := HFW.out.1.then hf3
 have hT3 := HX.out.1.non hfw3
 have hdf := DeleteFunc_c hT3.row HX.out.2.2.2.2.1 (HPD.out.later hf3.any) HX.out.2.2.2.2.2.1
 rw [← HX.out.2.2.2.1] at hdf
 have HDF := zI hdf
 have cb3 := hf3.cell HFW.out.2.2 id
 have hfz3 := hT3.fz
 have hbx3 := HX.out.2.1.non (HFW.out.2.1.then hf3)
 obtain ⟨ps, hps⟩ : ∃ ps, ps = (l.filter (fun n => n.own == ow && parent n.path == some p)).map (fun n => last n.path) := ⟨_, rfl⟩
 have hown3 : Own w.heap.size w3 nv ps := by rw [hps]; exact hown.low HFW.out.1.size
 have hnb := fun k e => hown.1.lt k e
 have HNE := zI (show ∀ k, nv.ownBlock = some k → k < w.heap.size + 2 → False from fun k e hk => by have h1 := (hnb k e).1; have h2 := HFW.out.2.1.size; have h3 := HX.out.2.1.sz; omega)
 have HPS := zI hps
 obtain ⟨vao, vcap, hvs⟩ := hown3.shape
 have H3 := zI (yI hfw3 (yI hT3 (yI hbx3 hown3)))
 clear hown hf3 hfw3 hT3 hdf hbx3 hown3 hnb hps
 go_wp2_with fail
 refine HDF.out.mono ?_
 rintro e w4 ⟨v4, rfl, hR4⟩
 obtain rfl := hR4.v
 obtain ⟨l4, hl4⟩ : ∃ l4, l4 = l.filter (fun n => !(n.own == ow && parent n.path == some p)) := ⟨_, rfl⟩
 have hrow4 := hR4.row
 rw [← hl4] at hrow4
 have hput := H3.out.2.1.put hR4.fp hrow4 H3.out.2.1.lowG H3.out.2.1.ne
 have hbl : b < w.heap.size := HX.out.1.lt
 have hnG : ∀ k, k = G → k < w.heap.size := fun k hk => by rw [hk]; exact HGl.out
 have hbW : ∀ k, k = b → k < w.heap.size := fun k hk => by rw [hk]; exact hbl
 have cb4 := hR4.fp.cell cb3 (fun e => HX.out.1.ne e)
 have fb4 : w4.frozen? ⟨b, 0, none⟩ = false := by have := hR4.fp.heap H3.out.2.1.blk (fun e => HX.out.1.ne e); simp [World.frozen?, this]
 obtain ⟨n4, hn4⟩ : ∃ n4, n4 = l4.length := ⟨_, rfl⟩
 rw [← hn4] at hput
 have HL4 := zI (yI hl4 hn4)
 have hlen : (l.filter (fun n => !(n.own == ow && parent n.path == some p))).length = n4 := by rw [hn4, hl4]
 rw [hlen]
 have hf44 : Fp (fun k => k = b) w4 (w4.setCell ⟨b, 0, none⟩ (.slice (some ⟨G, 0, none⟩) n4 cap)) := (Fp.refl (fun k => k = b) w4).setCell (p := ⟨b, 0, none⟩) (.inl rfl) _
 have hb4 := (H3.out.2.2.1.keep hR4.fp (fun k hk => .inl (hnG k hk))).keep hf44 (fun k hk => .inl (hbW k hk))
 have hown4 : Own w.heap.size (w4.setCell ⟨b, 0, none⟩ (.slice (some ⟨G, 0, none⟩) n4 cap)) nv ps := ⟨hf44.owns (hR4.fp.owns H3.out.2.2.2.1 (fun k hk e => HNE.out k hk (by have := hnG k e; omega))) (fun k hk e => HNE.out k hk (by have := hbW k e; omega)), H3.out.2.2.2.2⟩
 have hT9 := hput.1.keep (fp5 (S := fun k => k = w.heap.size + 1) (Fp.refl _ _) (b := w.heap.size + 1) (.inl rfl) (.int .i64 0) (.string ⟨#[]⟩) (.string ⟨#[]⟩) (.int .i64 0) nv) (fun e => by omega) (fun e => by have := HGl.out; omega)
 have HT9 := zI hT9
 have HE := zI (yI hb4.res (yI ((H3.out.1.any (S := ownT b G)).same hput.2) hown4))
 obtain ⟨r0, r1, r2, r3, r4⟩ := (hb4).r
 have z0 := (hb4).fz 0; have z1 := (hb4).fz 1; have z2 := (hb4).fz 2; have z3 := (hb4).fz 3; have z4 := (hb4).fz 4
 clear hR4 hl4 hrow4 hput hbl hnG hbW hn4 hf44 hb4 hown4 hT9 hlen cb3
 subst hvs
 go_wp2_with fail
 clear cb4 fb4
 generalize (w4.setCell ⟨b, 0, none⟩ _) = W4 at *
 go_wp2
 have hw9 := set5 HE.out.1 (.int .i64 0) (.string ⟨#[]⟩) (.string ⟨#[]⟩) (.int .i64 0) (.slice vao ps.length vcap)
 have hf9 := fp5 (S := ownT b G) HE.out.2.1 (b := w.heap.size + 1) (.inr (by omega)) (.int .i64 0) (.string ⟨#[]⟩) (.string ⟨#[]⟩) (.int .i64 0) (.slice vao ps.length vcap)
 have HO9 := own5 HE.out.2.2 (b := w.heap.size + 1) (fun e => HNE.out _ e (by omega)) (.int .i64 0) (.string ⟨#[]⟩) (.string ⟨#[]⟩) (.int .i64 0) (.slice vao ps.length vcap)
 generalize (((((World.setCell W4 _ _).setCell _ _).setCell _ _).setCell _ _).setCell _ _) = w9 at *
 obtain ⟨s0, s1, s2, s3, s4⟩ := b5 hw9
 exact bodyPost_ret (v := .agg #[.int .i64 0, .string ⟨#[]⟩, .string ⟨#[]⟩, .int .i64 0, .slice vao ps.length vcap]) (by simp [results, Tryz.results122, go_sem, s0, s1, s2, s3, s4]) rfl (by rw [← HL4.out.1, ← HPS.out]; exact MeR.of (r := ⟨0, [], [], 0, ps⟩) (nv := .slice vao ps.length vcap) HT9.out (.inl rfl) hf9 HO9)
theorem rows_turn (l : List Nd) (i : Nat) (hi : i < l.length) (v : Int) (rest : List Value) : ((rows l ++ rest).set (i * 5 + 3) (.int .i64 v)) = rows (l.set i { l[i] with turn := v }) ++ rest := by
 induction l generalizing i with
 | nil => simp at hi
 | cons a l ih =>
  cases i with
  | zero => rw [List.set_cons_zero, rows_cons, rows_cons]; simp [ndC]
  | succ i => ?_
  rw [List.set_cons_succ, rows_cons, rows_cons, List.append_assoc, List.append_assoc]
  simp only [List.getElem_cons_succ]
  rw [← ih i (by simpa using hi)]
  simp only [show (i + 1) * 5 = 5 + i * 5 from by omega, show ∀ j, 5 + i * 5 + j = 5 + (i * 5 + j) from fun j => by omega]
  rw [List.set_append_right _ _ (by rw [ndC_len]; omega), ndC_len, Nat.add_sub_cancel_left]
theorem Nr.turn {w : World} {G cap : Nat} {l : List Nd} (h : Nr w G cap l) (i : Nat) (hi : i < l.length) (v : Int) :
  Nr (w.setCell ⟨G, i * 5 + 3, none⟩ (.int .i64 v)) G cap (l.set i { l[i] with turn := v }) := by
 obtain ⟨rest, hg, hrl⟩ := h.ex
 have h1 := heap_setCell_same w G (i * 5 + 3) _ TN (.int .i64 v) hg
 refine ⟨⟨rest, ?_, by rw [List.length_set]; exact hrl⟩, by rw [List.length_set]; exact h.room, h.most⟩
 rw [h1, ← rows_turn l i hi v rest]
 simp [List.setIfInBounds_toArray]
theorem numbered_len {p q : Bs} {t : Int} (h : numbered p t = some q) : q.length ≤ 12 := by
 unfold numbered at h; split at h
 ·rename_i k
  rw [← Option.some.inj h]; exact (isPart_len k.2.2).2
 cases h
set_option maxHeartbeats 2000000 in
theorem created_c (o : Opn) (u : Bs) (turn : Int) (w : World) (ht : Tab w) (hu : u.length ≤ 100) (hq : (last o.path).length ≤ 100) (hp : o.path.length ≤ 100) (h0 : 0 ≤ turn) (h1 : turn ≤ 10000) :
  Calls Tryz.prog 154 #[opV o, .string (B u), .int .i64 turn] w fun e w' => e = .returned (.tuple #[.string (B ((named o u turn).getD [])), .bool (named o u turn).isSome]) ∧ Fp Non w w' := by
 obtain ⟨kk, p, d, v, ow, t⟩ := o
 unfold opV strV named
 simp only at hq hp ⊢
 have hf : ∀ o, Fp Non w (w.alloc o) := fun o => (Fp.refl Non w).alloc o
 have HF := zI hf
 cases t with
 | false =>
  simp only [Bool.false_eq_true, if_false]
  clear hf hq hp ht hu h0 h1
  go_enter Tryz.func154, Tryz.ntmps154
  go_wp2
  go_ret2
  exact ⟨rfl, HF.out _⟩
 | true => ?_
 simp only [if_true]
 obtain ⟨q, hq0⟩ : ∃ q, last p = q := ⟨_, rfl⟩
 have hla := fun w => Last_g p w (sz_of hp (by omega))
 rw [hq0] at hq hla ⊢
 obtain ⟨nn, hnn⟩ : ∃ nn, numbered q turn = nn := ⟨_, rfl⟩
 have hnu := fun w (ht : Tab w) => Numbered_c q turn w (sz_of hq (by omega)) (by omega) (by omega) (Or.inr ht.is)
 rw [hnn] at hnu ⊢
 have HL := zI hla
 have HN := zI hnu
 have HT := zI ht
 have hnl : ∀ q', nn = some q' → q'.length ≤ 12 := fun q' e => numbered_len (by rw [hnn, e])
 cases nn with
 | none =>
  clear hf hq hp hla hnu hnn hnl ht hu h0 hq0
  show Calls _ _ _ _ (fun e w' => e = .returned (.tuple #[.string (B []), .bool false]) ∧ _)
  go_enter Tryz.func154, Tryz.ntmps154
  go_wp2_with fail
  refine (HL.out _).mono ?_
  rintro e w1 ⟨rfl, g1⟩
  have F1 := zI ((HF.out _).then g1.fp)
  clear g1
  go_wp2_with fail
  refine (HN.out _ (HT.out.non F1.out)).mono ?_
  rintro e w2 ⟨rfl, g2⟩
  have F2 := zI (F1.out.then (Gr.fp g2))
  clear g2
  go_wp2
  go_ret2
  exact ⟨rfl, F2.out⟩
 | some q' => ?_
 have hjo := fun w => Join_g u q' w (sz_of hu (by omega)) (sz_of (hnl _ rfl) (by omega))
 have HJ := zI hjo
 clear hf hq hp hla hnu hnn hnl hjo ht hu h0 hq0
 show Calls _ _ _ _ (fun e w' => e = .returned (.tuple #[.string (B ((join u q').getD [])), .bool (join u q').isSome]) ∧ _)
 generalize (join u q').getD [] = r1 at *
 generalize (join u q').isSome = r2 at *
 go_enter Tryz.func154, Tryz.ntmps154
 go_wp2_with fail
 refine (HL.out _).mono ?_
 rintro e w1 ⟨rfl, g1⟩
 have F1 := zI ((HF.out _).then g1.fp)
 clear g1
 go_wp2_with fail
 refine (HN.out _ (HT.out.non F1.out)).mono ?_
 rintro e w2 ⟨rfl, g2⟩
 have F2 := zI (F1.out.then (Gr.fp g2))
 clear g2
 go_wp2_with fail
 refine (HJ.out _).mono ?_
 rintro e w3 ⟨rfl, g3⟩
 have F3 := zI (F2.out.then (Gr.fp g3))
 clear g3
 go_wp2
 go_ret2
 exact ⟨rfl, F3.out⟩
end Go.Proofs.YtphoglepiegeiaaGreatDoor
