/- A text of this proof. -/
import Derived.Test.YtphoglepiegeiaaGreatDoorZCC
import Derived.Test.YtphoglepiegeiaaGreatDoorZCH
set_option linter.unusedSimpArgs false
set_option linter.unusedVariables false
namespace Go.Proofs.YtphoglepiegeiaaGreatDoor
set_option maxRecDepth 20000
open Go.RowKit Pm
attribute [local irreducible] wpStill
set_option maxHeartbeats 4000000 in
theorem create_m {lo b G cap : Nat} {l : List Nd} {w : World} (h : Tn lo b G cap l w) (hs : Sp l) (hl : l.length ≤ 512) (hlo : lo ≤ w.heap.size) (ha : Asc l) (ht : Tab w) (htn : ∀ n ∈ l, 0 ≤ n.turn ∧ n.turn ≤ 10000) (o : Opn) (hu : ∃ u, parent o.path = some u) :
  Calls Tryz.prog 115 #[.pointer (some ⟨b, 0, none⟩), opV o] w (MeR lo b G (create l o).1 (create l o).2 w) := by
 obtain ⟨u, hu⟩ := hu
 obtain ⟨_, _, _, hul, hql, hpl, _⟩ := parent_some hu
 have hcr : create l o = (match find l u with
  | none => (l, .bad 62)
  | some x => if x.own ≠ 0 then (l, .bad 65) else match named o u x.turn with
   | none => (l, .bad 66)
   | some p => if (find l p).isSome = true then (l, .bad 61) else if l.length = 512 then (l, .bad 2) else
    (ins (if o.turns = true then l.set (place l u) { x with turn := x.turn + 1 } else l) (place l p) ⟨p, o.data, 0, 0, o.own⟩, ⟨0, p, [], 0, []⟩)) := by
  unfold create; rw [hu]; rfl
 obtain ⟨cr, hcr2⟩ : ∃ cr, create l o = cr := ⟨_, rfl⟩
 rw [hcr2] at hcr ⊢
 obtain ⟨l', r'⟩ := cr
 simp only
 have hcd := fun x w (ht : Tab w) (hx : x ∈ l) => created_c o u x.turn w ht hul hql hpl (htn x hx).1 (htn x hx).2
 have hpg := fun w => Parent_g o.path w (sz_of hpl (by omega))
 rw [hu] at hpg
 obtain ⟨kk, p, d, v, ow, t⟩ := o
 unfold opV strV
 unfold opV strV at hcd
 simp only at hcd hpg hcr
 have hbx := Bx.made w kk p d v ow t
 have hf0 : Fp Non w ((w.alloc (.cells #[.int .i64 kk, .string (B p), .string (B d), .int .i64 v, .int .i64 ow, .bool t] TO_)).alloc (.cells #[.int .i64 0, .string ⟨#[]⟩, .string ⟨#[]⟩, .int .i64 0, .slice none 0 0] TR)) := ((Fp.refl Non w).alloc _).alloc _
 have op1 : (((w.alloc (.cells #[.int .i64 kk, .string (B p), .string (B d), .int .i64 v, .int .i64 ow, .bool t] TO_)).alloc (.cells #[.int .i64 0, .string ⟨#[]⟩, .string ⟨#[]⟩, .int .i64 0, .slice none 0 0] TR))).cell? ⟨w.heap.size, 1, none⟩ = some (.string (B p)) := by rw [cell_of_row _ _ _ _ _ _ hbx.op]; rfl
 have op5 : (((w.alloc (.cells #[.int .i64 kk, .string (B p), .string (B d), .int .i64 v, .int .i64 ow, .bool t] TO_)).alloc (.cells #[.int .i64 0, .string ⟨#[]⟩, .string ⟨#[]⟩, .int .i64 0, .slice none 0 0] TR))).heap[w.heap.size]? = some (.cells #[.int .i64 kk, .string (B p), .string (B d), .int .i64 v, .int .i64 ow, .bool t] TO_ (0, 0)) := hbx.op
 obtain ⟨n, hn⟩ : ∃ n, n = l.length := ⟨_, rfl⟩
 have HX := zI (yI h (yI hbx (yI hf0 (yI hn (yI hs (yI hl hlo))))))
 have HA := zI (yI ha (yI ht (yI hcd hcr)))
 have HP := zI hpg
 have HTU := zI htn
 clear h hbx hf0 hn hs hl hlo ha ht hcd hcr hpg htn hcr2 hu hul hql hpl op5
 go_enter Tryz.func115, Tryz.ntmps115
 generalize hW0 : ((w.alloc (.cells #[.int .i64 kk, .string (B p), .string (B d), .int .i64 v, .int .i64 ow, .bool t] TO_)).alloc (.cells #[.int .i64 0, .string ⟨#[]⟩, .string ⟨#[]⟩, .int .i64 0, .slice none 0 0] TR)) = W0 at *
 go_wp2_with fail
 clear hW0
 refine (HP.out _).mono ?_
 rintro e w1 ⟨rfl, g1⟩
 have F1 := zI (yI (HX.out.2.2.1.then g1.fp) g1.fp)
 have op1 := g1.fp.cell op1 id
 clear g1
 go_wp2_with fail
 have hT1 := HX.out.1.non F1.out.1
 have hpc := place_c hT1 u HA.out.1 (by have := HX.out.2.2.2.2.2.1; omega)
 refine hpc.mono ?_
 rintro e w2 ⟨rfl, hf2⟩
 have F2 := zI (yI (F1.out.1.then hf2) (F1.out.2.then hf2))
 clear hpc hf2 hT1
 cases hfu : find l u with
 | none =>
  have hcr := HA.out.2.2.2
  rw [hfu] at hcr
  have HC := zI (show l' = l ∧ r' = .bad 62 from by injection hcr with a b; exact ⟨a, b⟩)
  clear hcr hfu
  have hb2 := HX.out.2.1.non F2.out.2
  obtain ⟨r0, r1, r2, r3, r4⟩ := (hb2).r
  have z0 := (hb2).fz 0; have z1 := (hb2).fz 1; have z2 := (hb2).fz 2; have z3 := (hb2).fz 3; have z4 := (hb2).fz 4
  clear hb2
  go_wp2_with fail
  refine (refused_c 62 _).mono ?_
  rintro e w2 ⟨rfl, hf2⟩
  have hb2 := HX.out.2.1.non (F2.out.2.then hf2)
  have hfw := F2.out.1.then hf2
  clear r0 r1 r2 r3 r4 z0 z1 z2 z3 z4
  obtain ⟨r0, r1, r2, r3, r4⟩ := (hb2).r
  have z0 := (hb2).fz 0; have z1 := (hb2).fz 1; have z2 := (hb2).fz 2; have z3 := (hb2).fz 3; have z4 := (hb2).fz 4
  have HE := zI (yI hb2.res hfw)
  unfold badV
  clear hf2 hb2 hfw
  generalize w2 = W2 at *
  go_wp2
  have hw9 := set5 HE.out.1 (.int .i64 62) (.string ⟨#[]⟩) (.string ⟨#[]⟩) (.int .i64 0) (.slice none 0 0)
  have hf9 := fp5 (S := Non) HE.out.2 (b := w.heap.size + 1) (.inr (by omega)) (.int .i64 62) (.string ⟨#[]⟩) (.string ⟨#[]⟩) (.int .i64 0) (.slice none 0 0)
  generalize (((((World.setCell W2 _ _).setCell _ _).setCell _ _).setCell _ _).setCell _ _) = w9 at *
  obtain ⟨s0, s1, s2, s3, s4⟩ := b5 hw9
  exact bodyPost_ret (v := .agg #[.int .i64 62, .string ⟨#[]⟩, .string ⟨#[]⟩, .int .i64 0, .slice none 0 0]) (by simp [results, Tryz.results115, go_sem, s0, s1, s2, s3, s4]) rfl (by rw [HC.out.1, HC.out.2]; exact MeR.still HX.out.1 (r := .bad 62) (nv := .slice none 0 0) hf9 (Own.nil _ _))
 | some x => ?_
 obtain ⟨hat, hx⟩ := find_at HA.out.1 hfu
 have hT2 := HX.out.1.non F2.out.1
 have hnd := hT2.row.nd (place l u) hat
 rw [hx] at hnd
 have hxm : x ∈ l := (find_mem hfu).1
 have hxp : x.path = u := (find_mem hfu).2
 have hcr := HA.out.2.2.2
 rw [hfu] at hcr
 simp only at hcr
 obtain ⟨at_, hatE⟩ : ∃ at_, place l u = at_ := ⟨_, rfl⟩
 have hx2 : ∃ h : at_ < l.length, l[at_] = x := by subst hatE; exact ⟨hat, hx⟩
 rw [hatE] at hat hnd hcr ⊢
 have cb := hT2.c0
 rw [← HX.out.2.2.2.1] at cb
 have q1 : (at_ < n) = True := eq_true (by rw [HX.out.2.2.2.1]; exact hat)
 have q2 : ((at_ : Int) < (n : Int)) = True := eq_true (by rw [HX.out.2.2.2.1]; omega)
 have HCD := zI (fun w ht => HA.out.2.2.1 x w ht hxm)
 obtain ⟨xp, xd, xv, xt, xo⟩ := x
 simp only at hcr HCD hxp
 have c3 := hnd.c3; have c4 := hnd.c4
 simp only [Nat.zero_add] at c3 c4
 have HXM := zI (yI hat (yI hx2 (yI hxm hxp)))
 have HHC := zI hcr
 clear hT2 hnd hcr hat hxm hfu hx hatE hxp hx2
 by_cases hx0 : xo = 0
 ·have q3 : (xo == 0) = true := beq_iff_eq.2 hx0
  have q4 : (xo = 0) = True := eq_true hx0
  have HX0 := zI hx0
  have hcr := HHC.out
  rw [if_neg (by simpa using hx0)] at hcr
  obtain ⟨nm, hnm⟩ : ∃ nm, named ⟨kk, p, d, v, ow, t⟩ u xt = nm := ⟨_, rfl⟩
  rw [hnm] at hcr HCD
  have HHC2 := zI hcr
  have HTN := zI (HTU.out _ HXM.out.2.2.1)
  clear hx0 hcr HHC hnm
  obtain ⟨o0, o1, o2, o3, o4, o5⟩ := box6 ((F2.out.2.then (Fp.refl Non w2)).heap HX.out.2.1.op id)
  go_wp2_with fail
  have c3' := (Fp.refl Non w2).drew.cell c3 id
  have hbD := (F2.out.2.drew.heap HX.out.2.1.op id)
  have F3 := zI (yI F2.out.1.drew F2.out.2.drew)
  refine wp_region_held_drew (S := (fun w' => w'.cell? ⟨w.heap.size, 0, none⟩ = some (.int .i64 kk) ∧ w'.cell? ⟨w.heap.size, 1, none⟩ = some (.string (B p)) ∧ w'.cell? ⟨w.heap.size, 2, none⟩ = some (.string (B d)) ∧ w'.cell? ⟨w.heap.size, 3, none⟩ = some (.int .i64 v) ∧ w'.cell? ⟨w.heap.size, 4, none⟩ = some (.int .i64 ow) ∧ w'.cell? ⟨w.heap.size, 5, none⟩ = some (.bool t) ∧ w'.cell? ⟨G, at_ * 5 + 3, none⟩ = some (.int .i64 xt))) (by kernel_rfl) ?_ (fun hH => ?_)
  ·exact ⟨(box6 hbD).1, (box6 hbD).2.1, (box6 hbD).2.2.1, (box6 hbD).2.2.2.1, (box6 hbD).2.2.2.2.1, (box6 hbD).2.2.2.2.2, c3'⟩
  have HS3 := zI (fun w4 (hf : Fp Non w2.drew w4) => yI (hf.cell (box6 hbD).1 id) (yI (hf.cell (box6 hbD).2.1 id) (yI (hf.cell (box6 hbD).2.2.1 id) (yI (hf.cell (box6 hbD).2.2.2.1 id) (yI (hf.cell (box6 hbD).2.2.2.2.1 id) (yI (hf.cell (box6 hbD).2.2.2.2.2 id) (hf.cell c3' id)))))))
  clear F2 o0 o1 o2 o3 o4 o5 c3 c4 cb op1 c3' hbD
  generalize World.drew w2 = w3 at *
  refine tk 0 hH ?_
  refine tk 1 hH ?_
  refine tk 2 hH ?_
  refine tk 3 hH ?_
  refine tk 4 hH ?_
  refine tk 5 hH ?_
  refine rY 6 fun K hK => ?_
  go_simp
  go_at_call 154
  refine (HCD.out _ (HA.out.2.1.non F3.out.1)).mono ?_
  rintro e w4 ⟨rfl, hf4⟩
  have F4 := zI (yI (F3.out.1.then hf4) (F3.out.2.then hf4))
  have HS4 : Hid (_ ∧ _) := HS3.out w4 hf4
  clear hf4
  go_wp2_with fail
  refine hK.out _ _ HS4.out (fun hH => ?_)
  clear hK K
  try simp only [zz]
  refine tk 7 hH ?_
  refine tk 8 hH ?_
  refine tk 9 hH ?_
  refine tk 10 hH ?_
  refine tk 11 hH ?_
  refine dn ?_
  cases nm with
  | none =>
   have HC := zI (show l' = l ∧ r' = .bad 66 from by have hcr := HHC2.out; injection hcr with a b; exact ⟨a, b⟩)
   have hb2 := HX.out.2.1.non F4.out.2
   obtain ⟨r0, r1, r2, r3, r4⟩ := (hb2).r
   have z0 := (hb2).fz 0; have z1 := (hb2).fz 1; have z2 := (hb2).fz 2; have z3 := (hb2).fz 3; have z4 := (hb2).fz 4
   clear hb2
   go_wp2_with fail
   refine (refused_c 66 _).mono ?_
   rintro e w2 ⟨rfl, hf2⟩
   have hb2 := HX.out.2.1.non (F4.out.2.then hf2)
   have hfw := F4.out.1.then hf2
   clear r0 r1 r2 r3 r4 z0 z1 z2 z3 z4
   obtain ⟨r0, r1, r2, r3, r4⟩ := (hb2).r
   have z0 := (hb2).fz 0; have z1 := (hb2).fz 1; have z2 := (hb2).fz 2; have z3 := (hb2).fz 3; have z4 := (hb2).fz 4
   have HE := zI (yI hb2.res hfw)
   unfold badV
   clear hf2 hb2 hfw
   generalize w2 = W2 at *
   go_wp2
   have hw9 := set5 HE.out.1 (.int .i64 66) (.string ⟨#[]⟩) (.string ⟨#[]⟩) (.int .i64 0) (.slice none 0 0)
   have hf9 := fp5 (S := Non) HE.out.2 (b := w.heap.size + 1) (.inr (by omega)) (.int .i64 66) (.string ⟨#[]⟩) (.string ⟨#[]⟩) (.int .i64 0) (.slice none 0 0)
   generalize (((((World.setCell W2 _ _).setCell _ _).setCell _ _).setCell _ _).setCell _ _) = w9 at *
   obtain ⟨s0, s1, s2, s3, s4⟩ := b5 hw9
   exact bodyPost_ret (v := .agg #[.int .i64 66, .string ⟨#[]⟩, .string ⟨#[]⟩, .int .i64 0, .slice none 0 0]) (by simp [results, Tryz.results115, go_sem, s0, s1, s2, s3, s4]) rfl (by rw [HC.out.1, HC.out.2]; exact MeR.still HX.out.1 (r := .bad 66) (nv := .slice none 0 0) hf9 (Own.nil _ _))
  | some q => ?_
  have hcr := HHC2.out
  simp only at hcr
  have HHC3 := zI hcr
  clear hcr HHC2
  have hT4 := HX.out.1.non F4.out.1
  have hpc := place_c hT4 q HA.out.1 (by have := HX.out.2.2.2.2.2.1; omega)
  have HPC := zI hpc
  clear hpc hT4
  go_wp2_with fail
  refine HPC.out.mono ?_
  rintro e w5 ⟨rfl, hf5⟩
  have F5 := zI (yI (F4.out.1.then hf5) (F4.out.2.then hf5))
  clear HPC hf5
  obtain ⟨fq, hfq⟩ : ∃ fq, (find l q).isSome = fq := ⟨_, rfl⟩
  have hcr := HHC3.out
  rw [hfq] at hcr ⊢
  cases fq with
  | true =>
   have HC := zI (show l' = l ∧ r' = .bad 61 from by rw [if_pos rfl] at hcr; injection hcr with a b; exact ⟨a, b⟩)
   clear hcr hfq
   have hb2 := HX.out.2.1.non F5.out.2
   obtain ⟨r0, r1, r2, r3, r4⟩ := (hb2).r
   have z0 := (hb2).fz 0; have z1 := (hb2).fz 1; have z2 := (hb2).fz 2; have z3 := (hb2).fz 3; have z4 := (hb2).fz 4
   clear hb2
   go_wp2_with fail
   refine (refused_c 61 _).mono ?_
   rintro e w2 ⟨rfl, hf2⟩
   have hb2 := HX.out.2.1.non (F5.out.2.then hf2)
   have hfw := F5.out.1.then hf2
   clear r0 r1 r2 r3 r4 z0 z1 z2 z3 z4
   obtain ⟨r0, r1, r2, r3, r4⟩ := (hb2).r
   have z0 := (hb2).fz 0; have z1 := (hb2).fz 1; have z2 := (hb2).fz 2; have z3 := (hb2).fz 3; have z4 := (hb2).fz 4
   have HE := zI (yI hb2.res hfw)
   unfold badV
   clear hf2 hb2 hfw
   generalize w2 = W2 at *
   go_wp2
   have hw9 := set5 HE.out.1 (.int .i64 61) (.string ⟨#[]⟩) (.string ⟨#[]⟩) (.int .i64 0) (.slice none 0 0)
   have hf9 := fp5 (S := Non) HE.out.2 (b := w.heap.size + 1) (.inr (by omega)) (.int .i64 61) (.string ⟨#[]⟩) (.string ⟨#[]⟩) (.int .i64 0) (.slice none 0 0)
   generalize (((((World.setCell W2 _ _).setCell _ _).setCell _ _).setCell _ _).setCell _ _) = w9 at *
   obtain ⟨s0, s1, s2, s3, s4⟩ := b5 hw9
   exact bodyPost_ret (v := .agg #[.int .i64 61, .string ⟨#[]⟩, .string ⟨#[]⟩, .int .i64 0, .slice none 0 0]) (by simp [results, Tryz.results115, go_sem, s0, s1, s2, s3, s4]) rfl (by rw [HC.out.1, HC.out.2]; exact MeR.still HX.out.1 (r := .bad 61) (nv := .slice none 0 0) hf9 (Own.nil _ _))
  | false => ?_
  rw [if_neg (by simp), ← HX.out.2.2.2.1] at hcr
  have hT5 := HX.out.1.non F5.out.1
  have cb := hT5.c0
  rw [← HX.out.2.2.2.1] at cb
  have HFQ := zI hfq
  clear hT5 hfq
  by_cases hn512 : n = 512
  ·have q5 : ((n : Int) == 512) = true := beq_iff_eq.2 (by omega)
   have q6 : ((n : Int) = 512) = True := eq_true (by omega)
   have HC := zI (show l' = l ∧ r' = .bad 2 from by rw [if_pos hn512] at hcr; injection hcr with a b; exact ⟨a, b⟩)
   clear hcr hn512
   have hb2 := HX.out.2.1.non F5.out.2
   obtain ⟨r0, r1, r2, r3, r4⟩ := (hb2).r
   have z0 := (hb2).fz 0; have z1 := (hb2).fz 1; have z2 := (hb2).fz 2; have z3 := (hb2).fz 3; have z4 := (hb2).fz 4
   clear hb2
   go_wp2_with fail
   refine (refused_c 2 _).mono ?_
   rintro e w2 ⟨rfl, hf2⟩
   have hb2 := HX.out.2.1.non (F5.out.2.then hf2)
   have hfw := F5.out.1.then hf2
   clear r0 r1 r2 r3 r4 z0 z1 z2 z3 z4
   obtain ⟨r0, r1, r2, r3, r4⟩ := (hb2).r
   have z0 := (hb2).fz 0; have z1 := (hb2).fz 1; have z2 := (hb2).fz 2; have z3 := (hb2).fz 3; have z4 := (hb2).fz 4
   have HE := zI (yI hb2.res hfw)
   unfold badV
   clear hf2 hb2 hfw
   generalize w2 = W2 at *
   go_wp2
   have hw9 := set5 HE.out.1 (.int .i64 2) (.string ⟨#[]⟩) (.string ⟨#[]⟩) (.int .i64 0) (.slice none 0 0)
   have hf9 := fp5 (S := Non) HE.out.2 (b := w.heap.size + 1) (.inr (by omega)) (.int .i64 2) (.string ⟨#[]⟩) (.string ⟨#[]⟩) (.int .i64 0) (.slice none 0 0)
   generalize (((((World.setCell W2 _ _).setCell _ _).setCell _ _).setCell _ _).setCell _ _) = w9 at *
   obtain ⟨s0, s1, s2, s3, s4⟩ := b5 hw9
   exact bodyPost_ret (v := .agg #[.int .i64 2, .string ⟨#[]⟩, .string ⟨#[]⟩, .int .i64 0, .slice none 0 0]) (by simp [results, Tryz.results115, go_sem, s0, s1, s2, s3, s4]) rfl (by rw [HC.out.1, HC.out.2]; exact MeR.still HX.out.1 (r := .bad 2) (nv := .slice none 0 0) hf9 (Own.nil _ _))
  have q5 : ((n : Int) == 512) = false := beq_eq_false_iff_ne.2 (by omega)
  have q6 : ((n : Int) = 512) = False := eq_false (by omega)
  rw [if_neg hn512] at hcr
  have HC := zI hcr
  have HNE := zI hn512
  clear hcr hn512
  obtain ⟨o0, o1, o2, o3, o4, o5⟩ := box6 (F5.out.2.heap HX.out.2.1.op id)
  have hpl := place_le l q
  rw [← HX.out.2.2.2.1] at hpl
  cases t with
  | false =>
   have HC1 : Hid (l' = ins l (place l q) ⟨q, d, 0, 0, ow⟩ ∧ r' = ⟨0, q, [], 0, []⟩) := by
    have hcr := HC.out
    rw [if_neg (by simp)] at hcr
    injection hcr with a b; exact ⟨a, b⟩
   have HT5 : Hid (Tn lo b G cap l w5 ∧ Bx w kk p d v ow false w5 ∧ Fp (ownT b G) w w5 ∧ l.length = n ∧ place l q ≤ n ∧ 0 < n) := ⟨HX.out.1.non F5.out.1, HX.out.2.1.non F5.out.2, F5.out.1.any, HX.out.2.2.2.1.symm, hpl, by have := HXM.out.1; rw [HX.out.2.2.2.1]; omega⟩
   clear HC hpl
   go_wp2_with fail
   obtain ⟨kq, hkq⟩ : ∃ kq, place l q = kq := ⟨_, rfl⟩
   rw [hkq] at HT5 HC1 ⊢
   clear F5 F4 F3 F1 HXM HCD HNE HFQ HTN HX0 hkq HHC3
   refine wp_region_held_drew (S := (fun w' => w'.cell? ⟨w.heap.size, 2, none⟩ = some (.string (B d)) ∧ w'.cell? ⟨w.heap.size, 4, none⟩ = some (.int .i64 ow))) (by kernel_rfl) ?_ (fun hH => ?_)
   ·exact ⟨(Fp.refl Non _).drew.cell o2 id, (Fp.refl Non _).drew.cell o4 id⟩
   have hd : Fp Non w5 (World.drew w5) := (Fp.refl Non _).drew
   have HT6 : Hid (Tn lo b G cap l (World.drew w5) ∧ Bx w kk p d v ow false (World.drew w5) ∧ Fp (ownT b G) w (World.drew w5)) := ⟨HT5.out.1.non hd, HT5.out.2.1.non hd, HT5.out.2.2.1.drew⟩
   have HSD : Hid (_ ∧ _) := ⟨hd.cell o2 id, hd.cell o4 id⟩
   have cbd := hd.cell cb id
   clear cb o0 o1 o2 o3 o4 o5 hd
   generalize World.drew w5 = wd at *
   refine tk 0 hH ?_
   refine tk 1 hH ?_
   refine tk 2 hH ?_
   refine tk 3 hH ?_
   refine tk 5 hH ?_
   refine tk 6 hH ?_
   refine tk 7 hH ?_
   refine tk 8 hH ?_
   refine tk 9 hH ?_
   refine tk 10 hH ?_
   refine tk 11 hH ?_
   have hfa : Fp Non wd (wd.alloc (.cells #[.string (B q), .string (B d), .int .i64 0, .int .i64 0, .int .i64 ow] TN)) := (Fp.refl Non wd).alloc _
   have hXa : (wd.alloc (.cells #[.string (B q), .string (B d), .int .i64 0, .int .i64 0, .int .i64 ow] TN)).heap[wd.heap.size]? = some (.cells (ndC ⟨q, d, 0, 0, ow⟩).toArray TN (0, 0)) := heap_alloc_new wd _
   have HSA : Hid (_ ∧ _) := ⟨hfa.cell HSD.out.1 id, hfa.cell HSD.out.2 id⟩
   have HTA : Hid (Tn lo b G cap l (wd.alloc (.cells #[.string (B q), .string (B d), .int .i64 0, .int .i64 0, .int .i64 ow] TN)) ∧ Bx w kk p d v ow false (wd.alloc (.cells #[.string (B q), .string (B d), .int .i64 0, .int .i64 0, .int .i64 ow] TN)) ∧ Fp (ownT b G) w (wd.alloc (.cells #[.string (B q), .string (B d), .int .i64 0, .int .i64 0, .int .i64 ow] TN)) ∧ w.heap.size ≤ (wd.alloc (.cells #[.string (B q), .string (B d), .int .i64 0, .int .i64 0, .int .i64 ow] TN)).heap.size) := ⟨HT6.out.1.non hfa, HT6.out.2.1.non hfa, HT6.out.2.2.then hfa, (HT6.out.2.2.then hfa).size⟩
   have hin := Insert_c (x := ⟨q, d, 0, 0, ow⟩) HTA.out.1.row kq (by rw [HT5.out.2.2.2.1]; exact HT5.out.2.2.2.2.1) hXa (fun e => by have := HT6.out.1.row.lt; omega) (by have := HX.out.2.2.2.2.2.1; have h1 := HX.out.2.2.2.1; have h2 := HT5.out.2.2.2.1; omega) (by have h1 := HT5.out.2.2.2.2.2; have h2 := HT5.out.2.2.2.1; omega)
   rw [HT5.out.2.2.2.1] at hin
   have HIN := zI hin
   have cba := hfa.cell cbd id
   clear hfa hXa hin HT6
   refine wpAnyH_ready (rs := [4, 12]) (by kernel_rfl) (by simp) ?_
   refine AllReadyH.cons (o := ?obA122) ?hbA122 (fun K hK => ?wA122) (AllReadyH.cons (o := ?obB122) ?hbB122 (fun K hK => ?wB122) AllReadyH.nil)
   case hbA122 => simp only [zA, zB, zC] <;> exact rfl
   case hbB122 => simp only [zA, zB, zC] <;> exact rfl
   case wA122 =>
    go_simp
    refine hK.out _ _ HSD.out (fun hH => ?_)
    clear hK K
    try simp only [zz]
    refine rY 12 fun K hK => ?_
    go_simp
    refine hK.out _ _ HSA.out (fun hH => ?_)
    clear hK K cbd cba HSD
    try simp only [zz]
    generalize (wd.alloc (.cells #[.string (B q), .string (B d), .int .i64 0, .int .i64 0, .int .i64 ow] TN)) = wa at *
    refine rY 13 fun K hK => ?_
    go_simp
    go_at_call 125
    refine HIN.out.mono ?_
    rintro e w7 ⟨v7, rfl, hR7⟩
    obtain ⟨G7, cap7, rfl, hrow7, hG7, hf7⟩ := hR7.ex
    have hnG : ∀ k, k = G → k < w.heap.size := fun k hk => by rw [hk]; exact HX.out.1.row.lt
    have hbl : b < w.heap.size := HX.out.1.lt
    have hlo7 : lo ≤ G7 := by
     rcases hG7 with e | e
     ·rw [e]; exact HX.out.1.lowG
     have h1 := HTA.out.2.2.2; have h2 := HX.out.2.2.2.2.2.2; omega
    have hne7 : b ≠ G7 := by
     rcases hG7 with e | e
     ·rw [e]; exact HX.out.1.ne
     have h1 := HTA.out.2.2.2; omega
    have hput := HTA.out.1.put hf7 hrow7 hlo7 hne7
    have hlen : (ins l kq ⟨q, d, 0, 0, ow⟩).length = n + 1 := by rw [ins_length, HT5.out.2.2.2.1]
    rw [hlen] at hput
    have hG7' : G7 = G ∨ w.heap.size ≤ G7 := by
     rcases hG7 with e | e
     ·exact .inl e
     exact .inr (by have h1 := HTA.out.2.2.2; omega)
    have hbW : ∀ k, k = b → k < w.heap.size := fun k hk => by rw [hk]; exact hbl
    have hf77 : Fp (fun k => k = b) w7 (w7.setCell ⟨b, 0, none⟩ (.slice (some ⟨G7, 0, none⟩) (n + 1) cap7)) := (Fp.refl (fun k => k = b) w7).setCell (p := ⟨b, 0, none⟩) (.inl rfl) _
    have hb7 := (HTA.out.2.1.keep hf7 (fun k hk => .inl (hnG k hk))).keep hf77 (fun k hk => .inl (hbW k hk))
    have hS7 := HSA.out
    have hS7 := yI (hf7.cell hS7.1 (fun e => by have := hnG _ e; simp only at this; omega)) (hf7.cell hS7.2 (fun e => by have := hnG _ e; simp only at this; omega))
    have HS7 := zI hS7
    have HS8 := zI (yI (hf77.cell hS7.1 (fun e => by have := hbW _ e; simp only at this; omega)) (hf77.cell hS7.2 (fun e => by have := hbW _ e; simp only at this; omega)))
    have fb7 : w7.frozen? ⟨b, 0, none⟩ = false := by have := hf7.heap HTA.out.1.blk (fun e => HX.out.1.ne e); simp [World.frozen?, this]
    have cb7 := hf7.cell HTA.out.1.c0 (fun e => HX.out.1.ne e)
    rw [HT5.out.2.2.2.1] at cb7
    have hfw7 : Fp (ownT b G) w (w7.setCell ⟨b, 0, none⟩ (.slice (some ⟨G7, 0, none⟩) (n + 1) cap7)) := HTA.out.2.2.1.same hput.2
    have HE := zI (yI hb7.res (yI hfw7 (yI hput.1 hG7')))
    have HRZ := zI hb7
    have HLT := zI (yI hbl (show G7 ≠ w.heap.size + 1 by
     rcases hG7 with e | e
     ·have := hnG _ e; omega
     have h1 := HTA.out.2.1.sz; omega))
    clear hR7 hrow7 hG7 hG7' hlo7 hne7 hput hlen hnG hbl hf77 hb7 hfw7 hf7 HIN HTA hbW hS7
    go_wp2_with fail
    refine hK.out _ _ HS7.out (fun hH => ?_)
    clear hK K
    try simp only [zz]
    refine tk 14 hH ?_
    refine tk 15 hH ?_
    refine rY 16 fun K hK => ?_
    go_simp
    refine hK.out _ _ HS8.out (fun hH => ?_)
    clear hK K hH cb7 fb7
    try simp only [zz]
    refine dn ?_
    obtain ⟨r0, r1, r2, r3, r4⟩ := HRZ.out.r
    have z0 := HRZ.out.fz 0; have z1 := HRZ.out.fz 1; have z2 := HRZ.out.fz 2; have z3 := HRZ.out.fz 3; have z4 := HRZ.out.fz 4
    generalize (w7.setCell ⟨b, 0, none⟩ _) = W7 at *
    go_wp2
    have hT9 := HE.out.2.2.1.keep (fp5 (S := fun k => k = w.heap.size + 1) (Fp.refl _ _) (b := w.heap.size + 1) (.inl rfl) (.int .i64 0) (.string (B q)) (.string ⟨#[]⟩) (.int .i64 0) (.slice none 0 0)) (fun e => by have := HLT.out.1; omega) (fun e => HLT.out.2 e)
    have hw9 := set5 HE.out.1 (.int .i64 0) (.string (B q)) (.string ⟨#[]⟩) (.int .i64 0) (.slice none 0 0)
    have hf9 := fp5 (S := ownT b G) HE.out.2.1 (b := w.heap.size + 1) (.inr (by omega)) (.int .i64 0) (.string (B q)) (.string ⟨#[]⟩) (.int .i64 0) (.slice none 0 0)
    generalize (((((World.setCell W7 _ _).setCell _ _).setCell _ _).setCell _ _).setCell _ _) = w9 at *
    obtain ⟨s0, s1, s2, s3, s4⟩ := b5 hw9
    exact bodyPost_ret (v := .agg #[.int .i64 0, .string (B q), .string ⟨#[]⟩, .int .i64 0, .slice none 0 0]) (by simp [results, Tryz.results115, go_sem, s0, s1, s2, s3, s4]) rfl (by rw [HC1.out.1, HC1.out.2]; exact MeR.of (r := ⟨0, q, [], 0, []⟩) (nv := .slice none 0 0) hT9 HE.out.2.2.2 hf9 (Own.nil _ _))
   go_simp
   refine hK.out _ _ HSA.out (fun hH => ?_)
   clear hK K cbd HSD
   try simp only [zz]
   generalize (wd.alloc (.cells #[.string (B q), .string (B d), .int .i64 0, .int .i64 0, .int .i64 ow] TN)) = wa at *
   refine rY 4 fun K hK => ?_
   go_simp
   refine hK.out _ _ HSA.out (fun hH => ?_)
   clear hK K cba
   try simp only [zz]
   refine rY 13 fun K hK => ?_
   go_simp
   go_at_call 125
   refine HIN.out.mono ?_
   rintro e w7 ⟨v7, rfl, hR7⟩
   obtain ⟨G7, cap7, rfl, hrow7, hG7, hf7⟩ := hR7.ex
   have hnG : ∀ k, k = G → k < w.heap.size := fun k hk => by rw [hk]; exact HX.out.1.row.lt
   have hbl : b < w.heap.size := HX.out.1.lt
   have hlo7 : lo ≤ G7 := by
    rcases hG7 with e | e
    ·rw [e]; exact HX.out.1.lowG
    have h1 := HTA.out.2.2.2; have h2 := HX.out.2.2.2.2.2.2; omega
   have hne7 : b ≠ G7 := by
    rcases hG7 with e | e
    ·rw [e]; exact HX.out.1.ne
    have h1 := HTA.out.2.2.2; omega
   have hput := HTA.out.1.put hf7 hrow7 hlo7 hne7
   have hlen : (ins l kq ⟨q, d, 0, 0, ow⟩).length = n + 1 := by rw [ins_length, HT5.out.2.2.2.1]
   rw [hlen] at hput
   have hG7' : G7 = G ∨ w.heap.size ≤ G7 := by
    rcases hG7 with e | e
    ·exact .inl e
    exact .inr (by have h1 := HTA.out.2.2.2; omega)
   have hbW : ∀ k, k = b → k < w.heap.size := fun k hk => by rw [hk]; exact hbl
   have hf77 : Fp (fun k => k = b) w7 (w7.setCell ⟨b, 0, none⟩ (.slice (some ⟨G7, 0, none⟩) (n + 1) cap7)) := (Fp.refl (fun k => k = b) w7).setCell (p := ⟨b, 0, none⟩) (.inl rfl) _
   have hb7 := (HTA.out.2.1.keep hf7 (fun k hk => .inl (hnG k hk))).keep hf77 (fun k hk => .inl (hbW k hk))
   have hS7 := HSA.out
   have hS7 := yI (hf7.cell hS7.1 (fun e => by have := hnG _ e; simp only at this; omega)) (hf7.cell hS7.2 (fun e => by have := hnG _ e; simp only at this; omega))
   have HS7 := zI hS7
   have HS8 := zI (yI (hf77.cell hS7.1 (fun e => by have := hbW _ e; simp only at this; omega)) (hf77.cell hS7.2 (fun e => by have := hbW _ e; simp only at this; omega)))
   have fb7 : w7.frozen? ⟨b, 0, none⟩ = false := by have := hf7.heap HTA.out.1.blk (fun e => HX.out.1.ne e); simp [World.frozen?, this]
   have cb7 := hf7.cell HTA.out.1.c0 (fun e => HX.out.1.ne e)
   rw [HT5.out.2.2.2.1] at cb7
   have hfw7 : Fp (ownT b G) w (w7.setCell ⟨b, 0, none⟩ (.slice (some ⟨G7, 0, none⟩) (n + 1) cap7)) := HTA.out.2.2.1.same hput.2
   have HE := zI (yI hb7.res (yI hfw7 (yI hput.1 hG7')))
   have HRZ := zI hb7
   have HLT := zI (yI hbl (show G7 ≠ w.heap.size + 1 by
    rcases hG7 with e | e
    ·have := hnG _ e; omega
    have h1 := HTA.out.2.1.sz; omega))
   clear hR7 hrow7 hG7 hG7' hlo7 hne7 hput hlen hnG hbl hf77 hb7 hfw7 hf7 HIN HTA hbW hS7
   go_wp2_with fail
   refine hK.out _ _ HS7.out (fun hH => ?_)
   clear hK K
   try simp only [zz]
   refine tk 14 hH ?_
   refine tk 15 hH ?_
   refine rY 16 fun K hK => ?_
   go_simp
   refine hK.out _ _ HS8.out (fun hH => ?_)
   clear hK K hH cb7 fb7
   try simp only [zz]
   refine dn ?_
   obtain ⟨r0, r1, r2, r3, r4⟩ := HRZ.out.r
   have z0 := HRZ.out.fz 0; have z1 := HRZ.out.fz 1; have z2 := HRZ.out.fz 2; have z3 := HRZ.out.fz 3; have z4 := HRZ.out.fz 4
   generalize (w7.setCell ⟨b, 0, none⟩ _) = W7 at *
   go_wp2
   have hT9 := HE.out.2.2.1.keep (fp5 (S := fun k => k = w.heap.size + 1) (Fp.refl _ _) (b := w.heap.size + 1) (.inl rfl) (.int .i64 0) (.string (B q)) (.string ⟨#[]⟩) (.int .i64 0) (.slice none 0 0)) (fun e => by have := HLT.out.1; omega) (fun e => HLT.out.2 e)
   have hw9 := set5 HE.out.1 (.int .i64 0) (.string (B q)) (.string ⟨#[]⟩) (.int .i64 0) (.slice none 0 0)
   have hf9 := fp5 (S := ownT b G) HE.out.2.1 (b := w.heap.size + 1) (.inr (by omega)) (.int .i64 0) (.string (B q)) (.string ⟨#[]⟩) (.int .i64 0) (.slice none 0 0)
   generalize (((((World.setCell W7 _ _).setCell _ _).setCell _ _).setCell _ _).setCell _ _) = w9 at *
   obtain ⟨s0, s1, s2, s3, s4⟩ := b5 hw9
   exact bodyPost_ret (v := .agg #[.int .i64 0, .string (B q), .string ⟨#[]⟩, .int .i64 0, .slice none 0 0]) (by simp [results, Tryz.results115, go_sem, s0, s1, s2, s3, s4]) rfl (by rw [HC1.out.1, HC1.out.2]; exact MeR.of (r := ⟨0, q, [], 0, []⟩) (nv := .slice none 0 0) hT9 HE.out.2.2.2 hf9 (Own.nil _ _))
  | true => ?_
  have HC1 : Hid (l' = ins (l.set at_ ⟨xp, xd, xv, xt + 1, xo⟩) (place l q) ⟨q, d, 0, 0, ow⟩ ∧ r' = ⟨0, q, [], 0, []⟩) := by
   have hcr := HC.out
   rw [if_pos rfl] at hcr
   injection hcr with a b; exact ⟨a, b⟩
  have hT5 := HX.out.1.non F5.out.1
  obtain ⟨hat, hxe⟩ := HXM.out.2.1
  have hnd := hT5.row.nd at_ hat
  rw [hxe] at hnd
  have c3 := hnd.c3
  simp only [Nat.zero_add] at c3
  have fG3 := hT5.row.frozen (at_ * 5 + 3)
  have hrow6 := hT5.row.turn at_ hat (xt + 1)
  rw [hxe] at hrow6
  (try simp only at hrow6)
  have hfG : Fp (fun k => k = G) w5 (w5.setCell ⟨G, at_ * 5 + 3, none⟩ (.int .i64 (xt + 1))) := (Fp.refl (fun k => k = G) w5).setCell (p := ⟨G, at_ * 5 + 3, none⟩) (.inl rfl) _
  have hT6 := hT5.row' hfG hrow6 (by rw [List.length_set])
  have hnG : ∀ k, k = G → k < w.heap.size := fun k hk => by rw [hk]; exact HX.out.1.row.lt
  have hb6 := (HX.out.2.1.non F5.out.2).keep hfG (fun k hk => .inl (hnG k hk))
  have hf6 : Fp (ownT b G) w (w5.setCell ⟨G, at_ * 5 + 3, none⟩ (.int .i64 (xt + 1))) := (F5.out.1.any (S := ownT b G)).same (hfG.mono (T := ownT b G) (fun k hk => .inr hk))
  obtain ⟨l1, hl1⟩ : ∃ l1, l.set at_ ⟨xp, xd, xv, xt + 1, xo⟩ = l1 := ⟨_, rfl⟩
  have hll : l1.length = n := by rw [← hl1, List.length_set, HX.out.2.2.2.1]
  rw [hl1] at hT6 HC1
  obtain ⟨kq, hkq⟩ : ∃ kq, place l q = kq := ⟨_, rfl⟩
  have HT5 : Hid (Tn lo b G cap l1 (w5.setCell ⟨G, at_ * 5 + 3, none⟩ (.int .i64 (xt + 1))) ∧ Bx w kk p d v ow true (w5.setCell ⟨G, at_ * 5 + 3, none⟩ (.int .i64 (xt + 1))) ∧ Fp (ownT b G) w (w5.setCell ⟨G, at_ * 5 + 3, none⟩ (.int .i64 (xt + 1))) ∧ l1.length = n ∧ place l q ≤ n ∧ 0 < n) := ⟨hT6, hb6, hf6, hll, hpl, by have := HXM.out.1; rw [HX.out.2.2.2.1]; omega⟩
  rw [hkq] at HT5 HC1 ⊢
  have hxt := HTN.out
  (try simp only at hxt)
  clear HC hpl hat hxe hT5 hnd hrow6 hfG hT6 hnG hb6 hf6 hl1 hll hkq
  go_wp2_with fail
  clear c3 fG3 cb o0 o1 o2 o3 o4 o5
  generalize (w5.setCell ⟨G, at_ * 5 + 3, none⟩ _) = w6 at *
  have cb := HT5.out.1.c0
  rw [HT5.out.2.2.2.1] at cb
  obtain ⟨o0, o1, o2, o3, o4, o5⟩ := box6 HT5.out.2.1.op
  clear F5 F4 F3 F1 HXM HCD HNE HFQ HTN HX0 HHC3 hxt
  refine wp_region_held_drew (S := (fun w' => w'.cell? ⟨w.heap.size, 2, none⟩ = some (.string (B d)) ∧ w'.cell? ⟨w.heap.size, 4, none⟩ = some (.int .i64 ow))) (by kernel_rfl) ?_ (fun hH => ?_)
  ·exact ⟨(Fp.refl Non _).drew.cell o2 id, (Fp.refl Non _).drew.cell o4 id⟩
  have hd : Fp Non w6 (World.drew w6) := (Fp.refl Non _).drew
  have HT6 : Hid (Tn lo b G cap l1 (World.drew w6) ∧ Bx w kk p d v ow true (World.drew w6) ∧ Fp (ownT b G) w (World.drew w6)) := ⟨HT5.out.1.non hd, HT5.out.2.1.non hd, HT5.out.2.2.1.drew⟩
  have HSD : Hid (_ ∧ _) := ⟨hd.cell o2 id, hd.cell o4 id⟩
  have cbd := hd.cell cb id
  clear cb o0 o1 o2 o3 o4 o5 hd
  generalize World.drew w6 = wd at *
  refine tk 0 hH ?_
  refine tk 1 hH ?_
  refine tk 2 hH ?_
  refine tk 3 hH ?_
  refine tk 5 hH ?_
  refine tk 6 hH ?_
  refine tk 7 hH ?_
  refine tk 8 hH ?_
  refine tk 9 hH ?_
  refine tk 10 hH ?_
  refine tk 11 hH ?_
  have hfa : Fp Non wd (wd.alloc (.cells #[.string (B q), .string (B d), .int .i64 0, .int .i64 0, .int .i64 ow] TN)) := (Fp.refl Non wd).alloc _
  have hXa : (wd.alloc (.cells #[.string (B q), .string (B d), .int .i64 0, .int .i64 0, .int .i64 ow] TN)).heap[wd.heap.size]? = some (.cells (ndC ⟨q, d, 0, 0, ow⟩).toArray TN (0, 0)) := heap_alloc_new wd _
  have HSA : Hid (_ ∧ _) := ⟨hfa.cell HSD.out.1 id, hfa.cell HSD.out.2 id⟩
  have HTA : Hid (Tn lo b G cap l1 (wd.alloc (.cells #[.string (B q), .string (B d), .int .i64 0, .int .i64 0, .int .i64 ow] TN)) ∧ Bx w kk p d v ow true (wd.alloc (.cells #[.string (B q), .string (B d), .int .i64 0, .int .i64 0, .int .i64 ow] TN)) ∧ Fp (ownT b G) w (wd.alloc (.cells #[.string (B q), .string (B d), .int .i64 0, .int .i64 0, .int .i64 ow] TN)) ∧ w.heap.size ≤ (wd.alloc (.cells #[.string (B q), .string (B d), .int .i64 0, .int .i64 0, .int .i64 ow] TN)).heap.size) := ⟨HT6.out.1.non hfa, HT6.out.2.1.non hfa, HT6.out.2.2.then hfa, (HT6.out.2.2.then hfa).size⟩
  have hin := Insert_c (x := ⟨q, d, 0, 0, ow⟩) HTA.out.1.row kq (by rw [HT5.out.2.2.2.1]; exact HT5.out.2.2.2.2.1) hXa (fun e => by have := HT6.out.1.row.lt; omega) (by have := HX.out.2.2.2.2.2.1; have h1 := HX.out.2.2.2.1; have h2 := HT5.out.2.2.2.1; omega) (by have h1 := HT5.out.2.2.2.2.2; have h2 := HT5.out.2.2.2.1; omega)
  rw [HT5.out.2.2.2.1] at hin
  have HIN := zI hin
  have cba := hfa.cell cbd id
  clear hfa hXa hin HT6
  refine wpAnyH_ready (rs := [4, 12]) (by kernel_rfl) (by simp) ?_
  refine AllReadyH.cons (o := ?obA145) ?hbA145 (fun K hK => ?wA145) (AllReadyH.cons (o := ?obB145) ?hbB145 (fun K hK => ?wB145) AllReadyH.nil)
  case hbA145 => simp only [zA, zB, zC] <;> exact rfl
  case hbB145 => simp only [zA, zB, zC] <;> exact rfl
  case wA145 =>
   go_simp
   refine hK.out _ _ HSD.out (fun hH => ?_)
   clear hK K
   try simp only [zz]
   refine rY 12 fun K hK => ?_
   go_simp
   refine hK.out _ _ HSA.out (fun hH => ?_)
   clear hK K cbd cba HSD
   try simp only [zz]
   generalize (wd.alloc (.cells #[.string (B q), .string (B d), .int .i64 0, .int .i64 0, .int .i64 ow] TN)) = wa at *
   refine rY 13 fun K hK => ?_
   go_simp
   go_at_call 125
   refine HIN.out.mono ?_
   rintro e w7 ⟨v7, rfl, hR7⟩
   obtain ⟨G7, cap7, rfl, hrow7, hG7, hf7⟩ := hR7.ex
   have hnG : ∀ k, k = G → k < w.heap.size := fun k hk => by rw [hk]; exact HX.out.1.row.lt
   have hbl : b < w.heap.size := HX.out.1.lt
   have hlo7 : lo ≤ G7 := by
    rcases hG7 with e | e
    ·rw [e]; exact HX.out.1.lowG
    have h1 := HTA.out.2.2.2; have h2 := HX.out.2.2.2.2.2.2; omega
   have hne7 : b ≠ G7 := by
    rcases hG7 with e | e
    ·rw [e]; exact HX.out.1.ne
    have h1 := HTA.out.2.2.2; omega
   have hput := HTA.out.1.put hf7 hrow7 hlo7 hne7
   have hlen : (ins l1 kq ⟨q, d, 0, 0, ow⟩).length = n + 1 := by rw [ins_length, HT5.out.2.2.2.1]
   rw [hlen] at hput
   have hG7' : G7 = G ∨ w.heap.size ≤ G7 := by
    rcases hG7 with e | e
    ·exact .inl e
    exact .inr (by have h1 := HTA.out.2.2.2; omega)
   have hbW : ∀ k, k = b → k < w.heap.size := fun k hk => by rw [hk]; exact hbl
   have hf77 : Fp (fun k => k = b) w7 (w7.setCell ⟨b, 0, none⟩ (.slice (some ⟨G7, 0, none⟩) (n + 1) cap7)) := (Fp.refl (fun k => k = b) w7).setCell (p := ⟨b, 0, none⟩) (.inl rfl) _
   have hb7 := (HTA.out.2.1.keep hf7 (fun k hk => .inl (hnG k hk))).keep hf77 (fun k hk => .inl (hbW k hk))
   have hS7 := HSA.out
   have hS7 := yI (hf7.cell hS7.1 (fun e => by have := hnG _ e; simp only at this; omega)) (hf7.cell hS7.2 (fun e => by have := hnG _ e; simp only at this; omega))
   have HS7 := zI hS7
   have HS8 := zI (yI (hf77.cell hS7.1 (fun e => by have := hbW _ e; simp only at this; omega)) (hf77.cell hS7.2 (fun e => by have := hbW _ e; simp only at this; omega)))
   have fb7 : w7.frozen? ⟨b, 0, none⟩ = false := by have := hf7.heap HTA.out.1.blk (fun e => HX.out.1.ne e); simp [World.frozen?, this]
   have cb7 := hf7.cell HTA.out.1.c0 (fun e => HX.out.1.ne e)
   rw [HT5.out.2.2.2.1] at cb7
   have hfw7 : Fp (ownT b G) w (w7.setCell ⟨b, 0, none⟩ (.slice (some ⟨G7, 0, none⟩) (n + 1) cap7)) := HTA.out.2.2.1.same hput.2
   have HE := zI (yI hb7.res (yI hfw7 (yI hput.1 hG7')))
   have HRZ := zI hb7
   have HLT := zI (yI hbl (show G7 ≠ w.heap.size + 1 by
    rcases hG7 with e | e
    ·have := hnG _ e; omega
    have h1 := HTA.out.2.1.sz; omega))
   clear hR7 hrow7 hG7 hG7' hlo7 hne7 hput hlen hnG hbl hf77 hb7 hfw7 hf7 HIN HTA hbW hS7
   go_wp2_with fail
   refine hK.out _ _ HS7.out (fun hH => ?_)
   clear hK K
   try simp only [zz]
   refine tk 14 hH ?_
   refine tk 15 hH ?_
   refine rY 16 fun K hK => ?_
   go_simp
   refine hK.out _ _ HS8.out (fun hH => ?_)
   clear hK K hH cb7 fb7
   try simp only [zz]
   refine dn ?_
   obtain ⟨r0, r1, r2, r3, r4⟩ := HRZ.out.r
   have z0 := HRZ.out.fz 0; have z1 := HRZ.out.fz 1; have z2 := HRZ.out.fz 2; have z3 := HRZ.out.fz 3; have z4 := HRZ.out.fz 4
   generalize (w7.setCell ⟨b, 0, none⟩ _) = W7 at *
   go_wp2
   have hT9 := HE.out.2.2.1.keep (fp5 (S := fun k => k = w.heap.size + 1) (Fp.refl _ _) (b := w.heap.size + 1) (.inl rfl) (.int .i64 0) (.string (B q)) (.string ⟨#[]⟩) (.int .i64 0) (.slice none 0 0)) (fun e => by have := HLT.out.1; omega) (fun e => HLT.out.2 e)
   have hw9 := set5 HE.out.1 (.int .i64 0) (.string (B q)) (.string ⟨#[]⟩) (.int .i64 0) (.slice none 0 0)
   have hf9 := fp5 (S := ownT b G) HE.out.2.1 (b := w.heap.size + 1) (.inr (by omega)) (.int .i64 0) (.string (B q)) (.string ⟨#[]⟩) (.int .i64 0) (.slice none 0 0)
   generalize (((((World.setCell W7 _ _).setCell _ _).setCell _ _).setCell _ _).setCell _ _) = w9 at *
   obtain ⟨s0, s1, s2, s3, s4⟩ := b5 hw9
   exact bodyPost_ret (v := .agg #[.int .i64 0, .string (B q), .string ⟨#[]⟩, .int .i64 0, .slice none 0 0]) (by simp [results, Tryz.results115, go_sem, s0, s1, s2, s3, s4]) rfl (by rw [HC1.out.1, HC1.out.2]; exact MeR.of (r := ⟨0, q, [], 0, []⟩) (nv := .slice none 0 0) hT9 HE.out.2.2.2 hf9 (Own.nil _ _))
  go_simp
  refine hK.out _ _ HSA.out (fun hH => ?_)
  clear hK K cbd HSD
  try simp only [zz]
  generalize (wd.alloc (.cells #[.string (B q), .string (B d), .int .i64 0, .int .i64 0, .int .i64 ow] TN)) = wa at *
  refine rY 4 fun K hK => ?_
  go_simp
  refine hK.out _ _ HSA.out (fun hH => ?_)
  clear hK K cba
  try simp only [zz]
  refine rY 13 fun K hK => ?_
  go_simp
  go_at_call 125
  refine HIN.out.mono ?_
  rintro e w7 ⟨v7, rfl, hR7⟩
  obtain ⟨G7, cap7, rfl, hrow7, hG7, hf7⟩ := hR7.ex
  have hnG : ∀ k, k = G → k < w.heap.size := fun k hk => by rw [hk]; exact HX.out.1.row.lt
  have hbl : b < w.heap.size := HX.out.1.lt
  have hlo7 : lo ≤ G7 := by
   rcases hG7 with e | e
   ·rw [e]; exact HX.out.1.lowG
   have h1 := HTA.out.2.2.2; have h2 := HX.out.2.2.2.2.2.2; omega
  have hne7 : b ≠ G7 := by
   rcases hG7 with e | e
   ·rw [e]; exact HX.out.1.ne
   have h1 := HTA.out.2.2.2; omega
  have hput := HTA.out.1.put hf7 hrow7 hlo7 hne7
  have hlen : (ins l1 kq ⟨q, d, 0, 0, ow⟩).length = n + 1 := by rw [ins_length, HT5.out.2.2.2.1]
  rw [hlen] at hput
  have hG7' : G7 = G ∨ w.heap.size ≤ G7 := by
   rcases hG7 with e | e
   ·exact .inl e
   exact .inr (by have h1 := HTA.out.2.2.2; omega)
  have hbW : ∀ k, k = b → k < w.heap.size := fun k hk => by rw [hk]; exact hbl
  have hf77 : Fp (fun k => k = b) w7 (w7.setCell ⟨b, 0, none⟩ (.slice (some ⟨G7, 0, none⟩) (n + 1) cap7)) := (Fp.refl (fun k => k = b) w7).setCell (p := ⟨b, 0, none⟩) (.inl rfl) _
  have hb7 := (HTA.out.2.1.keep hf7 (fun k hk => .inl (hnG k hk))).keep hf77 (fun k hk => .inl (hbW k hk))
  have hS7 := HSA.out
  have hS7 := yI (hf7.cell hS7.1 (fun e => by have := hnG _ e; simp only at this; omega)) (hf7.cell hS7.2 (fun e => by have := hnG _ e; simp only at this; omega))
  have HS7 := zI hS7
  have HS8 := zI (yI (hf77.cell hS7.1 (fun e => by have := hbW _ e; simp only at this; omega)) (hf77.cell hS7.2 (fun e => by have := hbW _ e; simp only at this; omega)))
  have fb7 : w7.frozen? ⟨b, 0, none⟩ = false := by have := hf7.heap HTA.out.1.blk (fun e => HX.out.1.ne e); simp [World.frozen?, this]
  have cb7 := hf7.cell HTA.out.1.c0 (fun e => HX.out.1.ne e)
  rw [HT5.out.2.2.2.1] at cb7
  have hfw7 : Fp (ownT b G) w (w7.setCell ⟨b, 0, none⟩ (.slice (some ⟨G7, 0, none⟩) (n + 1) cap7)) := HTA.out.2.2.1.same hput.2
  have HE := zI (yI hb7.res (yI hfw7 (yI hput.1 hG7')))
  have HRZ := zI hb7
  have HLT := zI (yI hbl (show G7 ≠ w.heap.size + 1 by
   rcases hG7 with e | e
   ·have := hnG _ e; omega
   have h1 := HTA.out.2.1.sz; omega))
  clear hR7 hrow7 hG7 hG7' hlo7 hne7 hput hlen hnG hbl hf77 hb7 hfw7 hf7 HIN HTA hbW hS7
  go_wp2_with fail
  refine hK.out _ _ HS7.out (fun hH => ?_)
  clear hK K
  try simp only [zz]
  refine tk 14 hH ?_
  refine tk 15 hH ?_
  refine rY 16 fun K hK => ?_
  go_simp
  refine hK.out _ _ HS8.out (fun hH => ?_)
  clear hK K hH cb7 fb7
  try simp only [zz]
  refine dn ?_
  obtain ⟨r0, r1, r2, r3, r4⟩ := HRZ.out.r
  have z0 := HRZ.out.fz 0; have z1 := HRZ.out.fz 1; have z2 := HRZ.out.fz 2; have z3 := HRZ.out.fz 3; have z4 := HRZ.out.fz 4
  generalize (w7.setCell ⟨b, 0, none⟩ _) = W7 at *
  go_wp2
  have hT9 := HE.out.2.2.1.keep (fp5 (S := fun k => k = w.heap.size + 1) (Fp.refl _ _) (b := w.heap.size + 1) (.inl rfl) (.int .i64 0) (.string (B q)) (.string ⟨#[]⟩) (.int .i64 0) (.slice none 0 0)) (fun e => by have := HLT.out.1; omega) (fun e => HLT.out.2 e)
  have hw9 := set5 HE.out.1 (.int .i64 0) (.string (B q)) (.string ⟨#[]⟩) (.int .i64 0) (.slice none 0 0)
  have hf9 := fp5 (S := ownT b G) HE.out.2.1 (b := w.heap.size + 1) (.inr (by omega)) (.int .i64 0) (.string (B q)) (.string ⟨#[]⟩) (.int .i64 0) (.slice none 0 0)
  generalize (((((World.setCell W7 _ _).setCell _ _).setCell _ _).setCell _ _).setCell _ _) = w9 at *
  obtain ⟨s0, s1, s2, s3, s4⟩ := b5 hw9
  exact bodyPost_ret (v := .agg #[.int .i64 0, .string (B q), .string ⟨#[]⟩, .int .i64 0, .slice none 0 0]) (by simp [results, Tryz.results115, go_sem, s0, s1, s2, s3, s4]) rfl (by rw [HC1.out.1, HC1.out.2]; exact MeR.of (r := ⟨0, q, [], 0, []⟩) (nv := .slice none 0 0) hT9 HE.out.2.2.2 hf9 (Own.nil _ _))
 have q3 : (xo == 0) = false := beq_eq_false_iff_ne.2 hx0
 have q4 : (xo = 0) = False := eq_false hx0
 have HC := zI (show l' = l ∧ r' = .bad 65 from by have hcr := HHC.out; rw [if_pos hx0] at hcr; injection hcr with a b; exact ⟨a, b⟩)
 clear hx0
 have hb2 := HX.out.2.1.non F2.out.2
 obtain ⟨r0, r1, r2, r3, r4⟩ := (hb2).r
 have z0 := (hb2).fz 0; have z1 := (hb2).fz 1; have z2 := (hb2).fz 2; have z3 := (hb2).fz 3; have z4 := (hb2).fz 4
 clear hb2
 go_wp2_with fail
 refine (refused_c 65 _).mono ?_
 rintro e w2 ⟨rfl, hf2⟩
 have hb2 := HX.out.2.1.non (F2.out.2.then hf2)
 have hfw := F2.out.1.then hf2
 clear r0 r1 r2 r3 r4 z0 z1 z2 z3 z4
 obtain ⟨r0, r1, r2, r3, r4⟩ := (hb2).r
 have z0 := (hb2).fz 0; have z1 := (hb2).fz 1; have z2 := (hb2).fz 2; have z3 := (hb2).fz 3; have z4 := (hb2).fz 4
 have HE := zI (yI hb2.res hfw)
 unfold badV
 clear hf2 hb2 hfw
 generalize w2 = W2 at *
 go_wp2
 have hw9 := set5 HE.out.1 (.int .i64 65) (.string ⟨#[]⟩) (.string ⟨#[]⟩) (.int .i64 0) (.slice none 0 0)
 have hf9 := fp5 (S := Non) HE.out.2 (b := w.heap.size + 1) (.inr (by omega)) (.int .i64 65) (.string ⟨#[]⟩) (.string ⟨#[]⟩) (.int .i64 0) (.slice none 0 0)
 generalize (((((World.setCell W2 _ _).setCell _ _).setCell _ _).setCell _ _).setCell _ _) = w9 at *
 obtain ⟨s0, s1, s2, s3, s4⟩ := b5 hw9
 exact bodyPost_ret (v := .agg #[.int .i64 65, .string ⟨#[]⟩, .string ⟨#[]⟩, .int .i64 0, .slice none 0 0]) (by simp [results, Tryz.results115, go_sem, s0, s1, s2, s3, s4]) rfl (by rw [HC.out.1, HC.out.2]; exact MeR.still HX.out.1 (r := .bad 65) (nv := .slice none 0 0) hf9 (Own.nil _ _))
end Go.Proofs.YtphoglepiegeiaaGreatDoor
