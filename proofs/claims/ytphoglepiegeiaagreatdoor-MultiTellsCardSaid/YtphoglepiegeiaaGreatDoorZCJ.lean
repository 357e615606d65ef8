/- A text of this proof. -/
import Derived.Test.YtphoglepiegeiaaGreatDoorZCC
import Derived.Test.YtphoglepiegeiaaGreatDoorZCI
set_option linter.unusedSimpArgs false
set_option linter.unusedVariables false
namespace Go.Proofs.YtphoglepiegeiaaGreatDoor
set_option maxRecDepth 20000
open Go.RowKit Pm
set_option maxHeartbeats 1000000 in
theorem existing_c (f : Fn) (w : World) :
  Calls Tryz.prog 116 #[.func f #[] #[]] w fun e w' => e = .returned (.func (.func 155) #[] #[.pointer (some ⟨w.heap.size, 0, none⟩)]) ∧ ∃ T, w' = w.alloc (.cells #[.func f #[] #[]] T) := by
 go_enter Tryz.func116, Tryz.ntmps116
 go_wp2
 go_ret
 exact ⟨rfl, _, rfl⟩
theorem MeR.back {lo b G : Nat} {l' : List Nd} {r : Res} {w w1 w2 : World} {e : Ending} (h : MeR lo b G l' r w1 e w2) (f : Fp Non w w1) : MeR lo b G l' r w e w2 := by
 obtain ⟨nv, G', cap', he, ho, ht, hg⟩ := h.ex
 refine ⟨⟨nv, G', cap', he, ho.low f.size, ht, ?_⟩, (f.any (S := ownT b G)).same h.fp⟩
 rcases hg with e | e
 ·exact .inl e
 exact .inr (Nat.le_trans f.size e)
def Does (lo b G cap : Nat) (l : List Nd) (o : Opn) (w : World) (fk : Nat) : Prop :=
 ∀ x w', find l o.path = some x → Fp Non w w' → Calls Tryz.prog fk #[.pointer (some ⟨b, 0, none⟩), .int .i64 (place l o.path : Nat), opV o] w' (MeR lo b G (doit l o x).1 (doit l o x).2 w')
set_option maxHeartbeats 8000000 in
theorem existing_2 {lo b G cap : Nat} {l : List Nd} {w : World} (h : Tn lo b G cap l w) (hs : Sp l) (hl : l.length ≤ 512) (hlo : lo ≤ w.heap.size) (ha : Asc l) (p d : Bs) (v ow : Int) (t : Bool) (g : Nat) (fk : Nat) (hg : w.cell? ⟨g, 0, none⟩ = some (.func (.func fk) #[] #[])) (hen : Enters Tryz.prog fk)
  (hdo : Does lo b G cap l ⟨2, p, d, v, ow, t⟩ w fk) :
  Calls Tryz.prog 155 #[.pointer (some ⟨b, 0, none⟩), opV ⟨2, p, d, v, ow, t⟩, .pointer (some ⟨g, 0, none⟩)] w (MeR lo b G (perform l ⟨2, p, d, v, ow, t⟩).1 (perform l ⟨2, p, d, v, ow, t⟩).2 w) := by
 have hcr : perform l ⟨2, p, d, v, ow, t⟩ = (match find l p with
   | none => (l, .bad 62)
   | some x => if True ∧ v ≠ -1 ∧ v ≠ x.ver then (l, .bad 63) else doit l ⟨2, p, d, v, ow, t⟩ x) := by
  unfold perform; simp [versioned]
  try (cases find l p <;> rfl)
 obtain ⟨cr, hcr2⟩ : ∃ cr, perform l ⟨2, p, d, v, ow, t⟩ = cr := ⟨_, rfl⟩
 rw [hcr2] at hcr ⊢
 obtain ⟨l', r'⟩ := cr
 simp only
 unfold opV strV
 have hbx := Bx.made w 2 p d v ow t
 have hf0 : Fp Non w ((w.alloc (.cells #[.int .i64 2, .string (B p), .string (B d), .int .i64 v, .int .i64 ow, .bool t] TO_)).alloc (.cells #[.int .i64 0, .string ⟨#[]⟩, .string ⟨#[]⟩, .int .i64 0, .slice none 0 0] TR)) := ((Fp.refl Non w).alloc _).alloc _
 have op1 : (((w.alloc (.cells #[.int .i64 2, .string (B p), .string (B d), .int .i64 v, .int .i64 ow, .bool t] TO_)).alloc (.cells #[.int .i64 0, .string ⟨#[]⟩, .string ⟨#[]⟩, .int .i64 0, .slice none 0 0] TR))).cell? ⟨w.heap.size, 1, none⟩ = some (.string (B p)) := by rw [cell_of_row _ _ _ _ _ _ hbx.op]; rfl
 have hpc := place_c (h.non hf0) p ha (by omega)
 have HPC := zI hpc
 obtain ⟨n, hn⟩ : ∃ n, n = l.length := ⟨_, rfl⟩
 have HX := zI (yI h (yI hbx (yI hf0 (yI hn (yI hs (yI hl hlo))))))
 have HA := zI (yI ha (yI hg (yI hdo hcr)))
 clear hpc h hbx hf0 hn hs hl hlo ha hg hdo hcr hcr2
 go_enter Tryz.func155, Tryz.ntmps155
 generalize hW0 : ((w.alloc (.cells #[.int .i64 2, .string (B p), .string (B d), .int .i64 v, .int .i64 ow, .bool t] TO_)).alloc (.cells #[.int .i64 0, .string ⟨#[]⟩, .string ⟨#[]⟩, .int .i64 0, .slice none 0 0] TR)) = W0 at *
 go_wp2_with fail
 clear hW0
 refine HPC.out.mono ?_
 rintro e w2 ⟨rfl, hf2⟩
 have F2 := zI (yI (HX.out.2.2.1.then hf2) hf2)
 clear hf2 HPC op1
 cases hfu : find l p with
 | none =>
  have hcr := HA.out.2.2.2
  rw [hfu] at hcr
  have HC := zI (show l' = l ∧ r' = .bad 62 from by injection hcr with a b; exact ⟨a, b⟩)
  clear hcr hfu
  have hb2 := HX.out.2.1.non F2.out.2
  obtain ⟨r0, r1, r2, r3, r4⟩ := (hb2).r
  have z0 := (hb2).fz 0; have z1 := (hb2).fz 1; have z2 := (hb2).fz 2; have z3 := (hb2).fz 3; have z4 := (hb2).fz 4
  clear hb2
  go_wp2_with fail
  refine (refused_c 62 _).mono ?_
  rintro e w2 ⟨rfl, hf2⟩
  have hb2 := HX.out.2.1.non (F2.out.2.then hf2)
  have hfw := F2.out.1.then hf2
  clear r0 r1 r2 r3 r4 z0 z1 z2 z3 z4
  obtain ⟨r0, r1, r2, r3, r4⟩ := (hb2).r
  have z0 := (hb2).fz 0; have z1 := (hb2).fz 1; have z2 := (hb2).fz 2; have z3 := (hb2).fz 3; have z4 := (hb2).fz 4
  have HE := zI (yI hb2.res hfw)
  unfold badV
  clear hf2 hb2 hfw
  generalize w2 = W2 at *
  go_wp2
  have hw9 := set5 HE.out.1 (.int .i64 62) (.string ⟨#[]⟩) (.string ⟨#[]⟩) (.int .i64 0) (.slice none 0 0)
  have hf9 := fp5 (S := Non) HE.out.2 (b := w.heap.size + 1) (.inr (by omega)) (.int .i64 62) (.string ⟨#[]⟩) (.string ⟨#[]⟩) (.int .i64 0) (.slice none 0 0)
  generalize (((((World.setCell W2 _ _).setCell _ _).setCell _ _).setCell _ _).setCell _ _) = w9 at *
  obtain ⟨s0, s1, s2, s3, s4⟩ := b5 hw9
  exact bodyPost_ret (v := .agg #[.int .i64 62, .string ⟨#[]⟩, .string ⟨#[]⟩, .int .i64 0, .slice none 0 0]) (by simp [results, Tryz.results155, go_sem, s0, s1, s2, s3, s4]) rfl (by rw [HC.out.1, HC.out.2]; exact MeR.still HX.out.1 (r := .bad 62) (nv := .slice none 0 0) hf9 (Own.nil _ _))
 | some x => ?_
 obtain ⟨hat, hx⟩ := find_at HA.out.1 hfu
 have hT2 := HX.out.1.non F2.out.1
 have hnd := hT2.row.nd (place l p) hat
 rw [hx] at hnd
 have hcr := HA.out.2.2.2
 rw [hfu] at hcr
 simp only at hcr
 have HDO := zI (fun w' f => HA.out.2.2.1 x w' hfu f)
 obtain ⟨at_, hatE⟩ : ∃ at_, place l p = at_ := ⟨_, rfl⟩
 simp only [hatE] at hnd HDO ⊢
 rw [hatE] at hat
 have cb := hT2.c0
 rw [← HX.out.2.2.2.1] at cb
 have q1 : (at_ < n) = True := eq_true (by rw [HX.out.2.2.2.1]; exact hat)
 have q2 : ((at_ : Int) < (n : Int)) = True := eq_true (by rw [HX.out.2.2.2.1]; omega)
 have hbW := F2.out.2.heap HX.out.2.1.op id
 obtain ⟨o0, o1, o2, o3, o4, o5⟩ := box6 hbW
 have c2 := hnd.c2
 simp only [Nat.zero_add] at c2
 obtain ⟨xp, xd, xv, xt, xo⟩ := x
 simp only at c2 hcr
 have HHC := zI hcr
 have fat := fields_at2
 have fbt : bits BinOp.and IntKind.i64 5 4 = 4 := by kernel_rfl
 clear hT2 hnd hcr hat hfu hx hatE hbW o1 o2 o4 o5
 by_cases hv1 : v = -1
 ·have q3 : (v == -1) = true := beq_iff_eq.2 hv1
  have q4 : (v = -1) = True := eq_true hv1
  have q7 : (v != -1) = false := by rw [bne, q3]; rfl
  have HC : Hid ((l', r') = doit l ⟨2, p, d, v, ow, t⟩ ⟨xp, xd, xv, xt, xo⟩) := by have hcr := HHC.out; rw [if_neg (fun k => k.2.1 hv1)] at hcr; exact hcr
  clear HHC hv1
  go_wp2_with fail
  refine wp_region_held_drew (S := (fun w' => w'.cell? ⟨w.heap.size, 0, none⟩ = some (.int .i64 2) ∧ w'.cell? ⟨w.heap.size, 3, none⟩ = some (.int .i64 v) ∧ w'.cell? ⟨b, 0, none⟩ = some (.slice (some ⟨G, 0, none⟩) n cap) ∧ w'.cell? ⟨G, at_ * 5 + 2, none⟩ = some (.int .i64 xv))) (by kernel_rfl) ?_ (fun hH => ?_)
  ·exact ⟨(Fp.refl Non _).drew.cell o0 id, (Fp.refl Non _).drew.cell o3 id, (Fp.refl Non _).drew.cell cb id, (Fp.refl Non _).drew.cell c2 id⟩
  have HSD := zI (fun w9 (hf : Fp Non w2.drew w9) => yI (hf.cell ((Fp.refl Non w2).drew.cell o0 id) id) (yI (hf.cell ((Fp.refl Non w2).drew.cell o3 id) id) (yI (hf.cell ((Fp.refl Non w2).drew.cell cb id) id) (hf.cell ((Fp.refl Non w2).drew.cell c2 id) id))))
  have F3 := zI (yI F2.out.1.drew F2.out.2.drew)
  clear o0 o3 cb c2
  generalize w2.drew = w3 at *
  refine tk 1 hH ?_
  refine tk 2 hH ?_
  refine rY 0 fun K hK => ?_
  go_simp
  go_at_call 79
  refine (fields_c _).mono ?_
  rintro e w4 ⟨rfl, hf4⟩
  have HS4 := zI (HSD.out w4 hf4)
  have F4 := zI (yI (F3.out.1.then hf4) (F3.out.2.then hf4))
  clear hf4 HSD F3
  go_wp2_with fail
  refine hK.out _ _ HS4.out (fun hH => ?_)
  clear hK K
  try simp only [zz]
  refine tk 3 hH ?_
  refine tk 4 hH ?_
  refine tk 5 hH ?_
  refine tk 6 hH ?_
  refine tk 7 hH ?_
  refine tk 8 hH ?_
  refine tk 9 hH ?_
  refine tk 10 hH ?_
  refine tk 11 hH ?_
  refine sk 12 hH ?_
  refine sk 13 hH ?_
  refine sk 14 hH ?_
  refine sk 15 hH ?_
  refine sk 16 hH ?_
  refine sk 17 hH ?_
  refine sk 18 hH ?_
  refine sk 19 hH ?_
  refine sk 20 hH ?_
  refine sk 21 hH ?_
  refine sk 22 hH ?_
  refine tk 23 hH ?_
  refine dn ?_
  clear hH
  have gc := F4.out.1.cell HA.out.2.1 id
  obtain ⟨o0, o1, o2, o3, o4, o5⟩ := box6 (F4.out.2.heap HX.out.2.1.op id)
  obtain ⟨re, rp, rd, rv, rn⟩ := r'
  have hdo := HDO.out _ F4.out.1
  rw [← HC.out] at hdo
  have HDC := zI hdo
  clear hdo HDO HC HS4 F2
  go_wp2_with fail
  rw [hen _ _]
  go_wp2_with fail
  refine HDC.out.mono ?_
  intro e w5 hM
  obtain ⟨nv, G', cap', rfl, ho, ht, hg⟩ := hM.ex
  have hfw := hM.fp
  have hnG : ∀ k, ownT b G k → k < w.heap.size := fun k hk => by
   rcases hk with hk | hk
   ·rw [hk]; exact HX.out.1.lt
   rw [hk]; exact HX.out.1.row.lt
  have hb5 := (HX.out.2.1.non F4.out.2).keep hfw (fun k hk => .inl (hnG k hk))
  have h4s : w.heap.size + 2 ≤ w4.heap.size := Nat.le_trans HX.out.2.1.sz F4.out.2.size
  have hf5 : Fp (ownT b G) w w5 := (F4.out.1.any (S := ownT b G)).same hfw
  have hnv := fun k e => (ho.1.lt k e).1
  have HNV := zI (show nv.ownBlock = some (w.heap.size + 1) → False from fun e => by have := hnv _ e; omega)
  have HGN := zI (yI (show b ≠ w.heap.size + 1 by have := hnG b (.inl rfl); omega) (show G' ≠ w.heap.size + 1 by
   rcases hg with e | e
   ·have := hnG G (.inr rfl); omega
   have : w4.heap.size ≤ G' := e; omega))
  have HG2 := zI (show G' = G ∨ w.heap.size ≤ G' by
   rcases hg with e | e
   ·exact .inl e
   exact .inr (by have : w4.heap.size ≤ G' := e; omega))
  have ho2 : Own w.heap.size w5 nv rn := ho.low F4.out.1.size
  obtain ⟨vao, vcap, hvs⟩ := ho2.shape
  have HE := zI (yI hb5.res (yI hf5 (yI ht ho2)))
  unfold strV
  obtain ⟨r0, r1, r2, r3, r4⟩ := (hb5).r
  have z0 := (hb5).fz 0; have z1 := (hb5).fz 1; have z2 := (hb5).fz 2; have z3 := (hb5).fz 3; have z4 := (hb5).fz 4
  clear hM hfw hnG hb5 h4s hf5 hnv hg ho ht ho2 HDC gc o0 o1 o2 o3 o4 o5
  subst hvs
  generalize w5 = W5 at *
  go_wp2
  have hT9 := HE.out.2.2.1.keep (fp5 (S := fun k => k = w.heap.size + 1) (Fp.refl _ W5) (b := w.heap.size + 1) (.inl rfl) (.int .i64 re) (.string (B rp)) (.string (B rd)) (.int .i64 rv) (.slice vao rn.length vcap)) (fun e => HGN.out.1 e) (fun e => HGN.out.2 e)
  have HO9 := own5 HE.out.2.2.2 (b := w.heap.size + 1) (fun e => HNV.out e) (.int .i64 re) (.string (B rp)) (.string (B rd)) (.int .i64 rv) (.slice vao rn.length vcap)
  have hw9 := set5 HE.out.1 (.int .i64 re) (.string (B rp)) (.string (B rd)) (.int .i64 rv) (.slice vao rn.length vcap)
  have hf9 := fp5 (S := ownT b G) HE.out.2.1 (b := w.heap.size + 1) (.inr (by omega)) (.int .i64 re) (.string (B rp)) (.string (B rd)) (.int .i64 rv) (.slice vao rn.length vcap)
  generalize (((((World.setCell W5 _ _).setCell _ _).setCell _ _).setCell _ _).setCell _ _) = w9 at *
  obtain ⟨s0, s1, s2, s3, s4⟩ := b5 hw9
  exact bodyPost_ret (v := .agg #[.int .i64 re, .string (B rp), .string (B rd), .int .i64 rv, .slice vao rn.length vcap]) (by simp [results, Tryz.results155, go_sem, s0, s1, s2, s3, s4]) rfl (MeR.of (r := ⟨re, rp, rd, rv, rn⟩) (nv := .slice vao rn.length vcap) hT9 HG2.out hf9 HO9)
 have q3 : (v == -1) = false := beq_eq_false_iff_ne.2 hv1
 have q4 : (v = -1) = False := eq_false hv1
 have q7 : (v != -1) = true := by rw [bne, q3]; rfl
 by_cases hv2 : v = xv
 ·have q5 : (v == xv) = true := beq_iff_eq.2 hv2
  have q6 : (v = xv) = True := eq_true hv2
  have q8 : (v != xv) = false := by rw [bne, q5]; rfl
  have HC : Hid ((l', r') = doit l ⟨2, p, d, v, ow, t⟩ ⟨xp, xd, xv, xt, xo⟩) := by have hcr := HHC.out; rw [if_neg (fun k => k.2.2 hv2)] at hcr; exact hcr
  clear HHC hv1 hv2
  go_wp2_with fail
  refine wp_region_held_drew (S := (fun w' => w'.cell? ⟨w.heap.size, 0, none⟩ = some (.int .i64 2) ∧ w'.cell? ⟨w.heap.size, 3, none⟩ = some (.int .i64 v) ∧ w'.cell? ⟨b, 0, none⟩ = some (.slice (some ⟨G, 0, none⟩) n cap) ∧ w'.cell? ⟨G, at_ * 5 + 2, none⟩ = some (.int .i64 xv))) (by kernel_rfl) ?_ (fun hH => ?_)
  ·exact ⟨(Fp.refl Non _).drew.cell o0 id, (Fp.refl Non _).drew.cell o3 id, (Fp.refl Non _).drew.cell cb id, (Fp.refl Non _).drew.cell c2 id⟩
  have HSD := zI (fun w9 (hf : Fp Non w2.drew w9) => yI (hf.cell ((Fp.refl Non w2).drew.cell o0 id) id) (yI (hf.cell ((Fp.refl Non w2).drew.cell o3 id) id) (yI (hf.cell ((Fp.refl Non w2).drew.cell cb id) id) (hf.cell ((Fp.refl Non w2).drew.cell c2 id) id))))
  have F3 := zI (yI F2.out.1.drew F2.out.2.drew)
  clear o0 o3 cb c2
  generalize w2.drew = w3 at *
  refine tk 1 hH ?_
  refine tk 2 hH ?_
  refine rY 0 fun K hK => ?_
  go_simp
  go_at_call 79
  refine (fields_c _).mono ?_
  rintro e w4 ⟨rfl, hf4⟩
  have HS4 := zI (HSD.out w4 hf4)
  have F4 := zI (yI (F3.out.1.then hf4) (F3.out.2.then hf4))
  clear hf4 HSD F3
  go_wp2_with fail
  refine hK.out _ _ HS4.out (fun hH => ?_)
  clear hK K
  try simp only [zz]
  refine tk 3 hH ?_
  refine tk 4 hH ?_
  refine tk 5 hH ?_
  refine tk 6 hH ?_
  refine tk 7 hH ?_
  refine tk 8 hH ?_
  refine tk 9 hH ?_
  refine tk 10 hH ?_
  refine tk 11 hH ?_
  refine tk 12 hH ?_
  refine tk 13 hH ?_
  refine tk 14 hH ?_
  refine tk 15 hH ?_
  refine tk 16 hH ?_
  refine tk 17 hH ?_
  refine tk 18 hH ?_
  refine tk 19 hH ?_
  refine tk 20 hH ?_
  refine tk 21 hH ?_
  refine tk 22 hH ?_
  refine tk 23 hH ?_
  refine dn ?_
  clear hH
  have gc := F4.out.1.cell HA.out.2.1 id
  obtain ⟨o0, o1, o2, o3, o4, o5⟩ := box6 (F4.out.2.heap HX.out.2.1.op id)
  obtain ⟨re, rp, rd, rv, rn⟩ := r'
  have hdo := HDO.out _ F4.out.1
  rw [← HC.out] at hdo
  have HDC := zI hdo
  clear hdo HDO HC HS4 F2
  go_wp2_with fail
  rw [hen _ _]
  go_wp2_with fail
  refine HDC.out.mono ?_
  intro e w5 hM
  obtain ⟨nv, G', cap', rfl, ho, ht, hg⟩ := hM.ex
  have hfw := hM.fp
  have hnG : ∀ k, ownT b G k → k < w.heap.size := fun k hk => by
   rcases hk with hk | hk
   ·rw [hk]; exact HX.out.1.lt
   rw [hk]; exact HX.out.1.row.lt
  have hb5 := (HX.out.2.1.non F4.out.2).keep hfw (fun k hk => .inl (hnG k hk))
  have h4s : w.heap.size + 2 ≤ w4.heap.size := Nat.le_trans HX.out.2.1.sz F4.out.2.size
  have hf5 : Fp (ownT b G) w w5 := (F4.out.1.any (S := ownT b G)).same hfw
  have hnv := fun k e => (ho.1.lt k e).1
  have HNV := zI (show nv.ownBlock = some (w.heap.size + 1) → False from fun e => by have := hnv _ e; omega)
  have HGN := zI (yI (show b ≠ w.heap.size + 1 by have := hnG b (.inl rfl); omega) (show G' ≠ w.heap.size + 1 by
   rcases hg with e | e
   ·have := hnG G (.inr rfl); omega
   have : w4.heap.size ≤ G' := e; omega))
  have HG2 := zI (show G' = G ∨ w.heap.size ≤ G' by
   rcases hg with e | e
   ·exact .inl e
   exact .inr (by have : w4.heap.size ≤ G' := e; omega))
  have ho2 : Own w.heap.size w5 nv rn := ho.low F4.out.1.size
  obtain ⟨vao, vcap, hvs⟩ := ho2.shape
  have HE := zI (yI hb5.res (yI hf5 (yI ht ho2)))
  unfold strV
  obtain ⟨r0, r1, r2, r3, r4⟩ := (hb5).r
  have z0 := (hb5).fz 0; have z1 := (hb5).fz 1; have z2 := (hb5).fz 2; have z3 := (hb5).fz 3; have z4 := (hb5).fz 4
  clear hM hfw hnG hb5 h4s hf5 hnv hg ho ht ho2 HDC gc o0 o1 o2 o3 o4 o5
  subst hvs
  generalize w5 = W5 at *
  go_wp2
  have hT9 := HE.out.2.2.1.keep (fp5 (S := fun k => k = w.heap.size + 1) (Fp.refl _ W5) (b := w.heap.size + 1) (.inl rfl) (.int .i64 re) (.string (B rp)) (.string (B rd)) (.int .i64 rv) (.slice vao rn.length vcap)) (fun e => HGN.out.1 e) (fun e => HGN.out.2 e)
  have HO9 := own5 HE.out.2.2.2 (b := w.heap.size + 1) (fun e => HNV.out e) (.int .i64 re) (.string (B rp)) (.string (B rd)) (.int .i64 rv) (.slice vao rn.length vcap)
  have hw9 := set5 HE.out.1 (.int .i64 re) (.string (B rp)) (.string (B rd)) (.int .i64 rv) (.slice vao rn.length vcap)
  have hf9 := fp5 (S := ownT b G) HE.out.2.1 (b := w.heap.size + 1) (.inr (by omega)) (.int .i64 re) (.string (B rp)) (.string (B rd)) (.int .i64 rv) (.slice vao rn.length vcap)
  generalize (((((World.setCell W5 _ _).setCell _ _).setCell _ _).setCell _ _).setCell _ _) = w9 at *
  obtain ⟨s0, s1, s2, s3, s4⟩ := b5 hw9
  exact bodyPost_ret (v := .agg #[.int .i64 re, .string (B rp), .string (B rd), .int .i64 rv, .slice vao rn.length vcap]) (by simp [results, Tryz.results155, go_sem, s0, s1, s2, s3, s4]) rfl (MeR.of (r := ⟨re, rp, rd, rv, rn⟩) (nv := .slice vao rn.length vcap) hT9 HG2.out hf9 HO9)
 have q5 : (v == xv) = false := beq_eq_false_iff_ne.2 hv2
 have q6 : (v = xv) = False := eq_false hv2
 have q8 : (v != xv) = true := by rw [bne, q5]; rfl
 have HC := zI (show l' = l ∧ r' = .bad 63 from by have hcr := HHC.out; rw [if_pos ⟨trivial, hv1, hv2⟩] at hcr; injection hcr with a b; exact ⟨a, b⟩)
 clear HHC hv1 hv2
 go_wp2_with fail
 refine wp_region_held_drew (S := (fun w' => w'.cell? ⟨w.heap.size, 0, none⟩ = some (.int .i64 2) ∧ w'.cell? ⟨w.heap.size, 3, none⟩ = some (.int .i64 v) ∧ w'.cell? ⟨b, 0, none⟩ = some (.slice (some ⟨G, 0, none⟩) n cap) ∧ w'.cell? ⟨G, at_ * 5 + 2, none⟩ = some (.int .i64 xv))) (by kernel_rfl) ?_ (fun hH => ?_)
 ·exact ⟨(Fp.refl Non _).drew.cell o0 id, (Fp.refl Non _).drew.cell o3 id, (Fp.refl Non _).drew.cell cb id, (Fp.refl Non _).drew.cell c2 id⟩
 have HSD := zI (fun w9 (hf : Fp Non w2.drew w9) => yI (hf.cell ((Fp.refl Non w2).drew.cell o0 id) id) (yI (hf.cell ((Fp.refl Non w2).drew.cell o3 id) id) (yI (hf.cell ((Fp.refl Non w2).drew.cell cb id) id) (hf.cell ((Fp.refl Non w2).drew.cell c2 id) id))))
 have F3 := zI (yI F2.out.1.drew F2.out.2.drew)
 clear o0 o3 cb c2
 generalize w2.drew = w3 at *
 refine tk 1 hH ?_
 refine tk 2 hH ?_
 refine rY 0 fun K hK => ?_
 go_simp
 go_at_call 79
 refine (fields_c _).mono ?_
 rintro e w4 ⟨rfl, hf4⟩
 have HS4 := zI (HSD.out w4 hf4)
 have F4 := zI (yI (F3.out.1.then hf4) (F3.out.2.then hf4))
 clear hf4 HSD F3
 go_wp2_with fail
 refine hK.out _ _ HS4.out (fun hH => ?_)
 clear hK K
 try simp only [zz]
 refine tk 3 hH ?_
 refine tk 4 hH ?_
 refine tk 5 hH ?_
 refine tk 6 hH ?_
 refine tk 7 hH ?_
 refine tk 8 hH ?_
 refine tk 9 hH ?_
 refine tk 10 hH ?_
 refine tk 11 hH ?_
 refine tk 12 hH ?_
 refine tk 13 hH ?_
 refine tk 14 hH ?_
 refine tk 15 hH ?_
 refine tk 16 hH ?_
 refine tk 17 hH ?_
 refine tk 18 hH ?_
 refine tk 19 hH ?_
 refine tk 20 hH ?_
 refine tk 21 hH ?_
 refine tk 22 hH ?_
 refine tk 23 hH ?_
 refine dn ?_
 have hb2 := HX.out.2.1.non F4.out.2
 obtain ⟨r0, r1, r2, r3, r4⟩ := (hb2).r
 have z0 := (hb2).fz 0; have z1 := (hb2).fz 1; have z2 := (hb2).fz 2; have z3 := (hb2).fz 3; have z4 := (hb2).fz 4
 clear hb2
 go_wp2_with fail
 refine (refused_c 63 _).mono ?_
 rintro e w2 ⟨rfl, hf2⟩
 have hb2 := HX.out.2.1.non (F4.out.2.then hf2)
 have hfw := F4.out.1.then hf2
 clear r0 r1 r2 r3 r4 z0 z1 z2 z3 z4
 obtain ⟨r0, r1, r2, r3, r4⟩ := (hb2).r
 have z0 := (hb2).fz 0; have z1 := (hb2).fz 1; have z2 := (hb2).fz 2; have z3 := (hb2).fz 3; have z4 := (hb2).fz 4
 have HE := zI (yI hb2.res hfw)
 unfold badV
 clear hf2 hb2 hfw
 generalize w2 = W2 at *
 go_wp2
 have hw9 := set5 HE.out.1 (.int .i64 63) (.string ⟨#[]⟩) (.string ⟨#[]⟩) (.int .i64 0) (.slice none 0 0)
 have hf9 := fp5 (S := Non) HE.out.2 (b := w.heap.size + 1) (.inr (by omega)) (.int .i64 63) (.string ⟨#[]⟩) (.string ⟨#[]⟩) (.int .i64 0) (.slice none 0 0)
 generalize (((((World.setCell W2 _ _).setCell _ _).setCell _ _).setCell _ _).setCell _ _) = w9 at *
 obtain ⟨s0, s1, s2, s3, s4⟩ := b5 hw9
 exact bodyPost_ret (v := .agg #[.int .i64 63, .string ⟨#[]⟩, .string ⟨#[]⟩, .int .i64 0, .slice none 0 0]) (by simp [results, Tryz.results155, go_sem, s0, s1, s2, s3, s4]) rfl (by rw [HC.out.1, HC.out.2]; exact MeR.still HX.out.1 (r := .bad 63) (nv := .slice none 0 0) hf9 (Own.nil _ _))
set_option maxHeartbeats 8000000 in
theorem existing_3 {lo b G cap : Nat} {l : List Nd} {w : World} (h : Tn lo b G cap l w) (hs : Sp l) (hl : l.length ≤ 512) (hlo : lo ≤ w.heap.size) (ha : Asc l) (p d : Bs) (v ow : Int) (t : Bool) (g : Nat) (fk : Nat) (hg : w.cell? ⟨g, 0, none⟩ = some (.func (.func fk) #[] #[])) (hen : Enters Tryz.prog fk)
  (hdo : Does lo b G cap l ⟨3, p, d, v, ow, t⟩ w fk) :
  Calls Tryz.prog 155 #[.pointer (some ⟨b, 0, none⟩), opV ⟨3, p, d, v, ow, t⟩, .pointer (some ⟨g, 0, none⟩)] w (MeR lo b G (perform l ⟨3, p, d, v, ow, t⟩).1 (perform l ⟨3, p, d, v, ow, t⟩).2 w) := by
 have hcr : perform l ⟨3, p, d, v, ow, t⟩ = (match find l p with
   | none => (l, .bad 62)
   | some x => if True ∧ v ≠ -1 ∧ v ≠ x.ver then (l, .bad 63) else doit l ⟨3, p, d, v, ow, t⟩ x) := by
  unfold perform; simp [versioned]
  try (cases find l p <;> rfl)
 obtain ⟨cr, hcr2⟩ : ∃ cr, perform l ⟨3, p, d, v, ow, t⟩ = cr := ⟨_, rfl⟩
 rw [hcr2] at hcr ⊢
 obtain ⟨l', r'⟩ := cr
 simp only
 unfold opV strV
 have hbx := Bx.made w 3 p d v ow t
 have hf0 : Fp Non w ((w.alloc (.cells #[.int .i64 3, .string (B p), .string (B d), .int .i64 v, .int .i64 ow, .bool t] TO_)).alloc (.cells #[.int .i64 0, .string ⟨#[]⟩, .string ⟨#[]⟩, .int .i64 0, .slice none 0 0] TR)) := ((Fp.refl Non w).alloc _).alloc _
 have op1 : (((w.alloc (.cells #[.int .i64 3, .string (B p), .string (B d), .int .i64 v, .int .i64 ow, .bool t] TO_)).alloc (.cells #[.int .i64 0, .string ⟨#[]⟩, .string ⟨#[]⟩, .int .i64 0, .slice none 0 0] TR))).cell? ⟨w.heap.size, 1, none⟩ = some (.string (B p)) := by rw [cell_of_row _ _ _ _ _ _ hbx.op]; rfl
 have hpc := place_c (h.non hf0) p ha (by omega)
 have HPC := zI hpc
 obtain ⟨n, hn⟩ : ∃ n, n = l.length := ⟨_, rfl⟩
 have HX := zI (yI h (yI hbx (yI hf0 (yI hn (yI hs (yI hl hlo))))))
 have HA := zI (yI ha (yI hg (yI hdo hcr)))
 clear hpc h hbx hf0 hn hs hl hlo ha hg hdo hcr hcr2
 go_enter Tryz.func155, Tryz.ntmps155
 generalize hW0 : ((w.alloc (.cells #[.int .i64 3, .string (B p), .string (B d), .int .i64 v, .int .i64 ow, .bool t] TO_)).alloc (.cells #[.int .i64 0, .string ⟨#[]⟩, .string ⟨#[]⟩, .int .i64 0, .slice none 0 0] TR)) = W0 at *
 go_wp2_with fail
 clear hW0
 refine HPC.out.mono ?_
 rintro e w2 ⟨rfl, hf2⟩
 have F2 := zI (yI (HX.out.2.2.1.then hf2) hf2)
 clear hf2 HPC op1
 cases hfu : find l p with
 | none =>
  have hcr := HA.out.2.2.2
  rw [hfu] at hcr
  have HC := zI (show l' = l ∧ r' = .bad 62 from by injection hcr with a b; exact ⟨a, b⟩)
  clear hcr hfu
  have hb2 := HX.out.2.1.non F2.out.2
  obtain ⟨r0, r1, r2, r3, r4⟩ := (hb2).r
  have z0 := (hb2).fz 0; have z1 := (hb2).fz 1; have z2 := (hb2).fz 2; have z3 := (hb2).fz 3; have z4 := (hb2).fz 4
  clear hb2
  go_wp2_with fail
  refine (refused_c 62 _).mono ?_
  rintro e w2 ⟨rfl, hf2⟩
  have hb2 := HX.out.2.1.non (F2.out.2.then hf2)
  have hfw := F2.out.1.then hf2
  clear r0 r1 r2 r3 r4 z0 z1 z2 z3 z4
  obtain ⟨r0, r1, r2, r3, r4⟩ := (hb2).r
  have z0 := (hb2).fz 0; have z1 := (hb2).fz 1; have z2 := (hb2).fz 2; have z3 := (hb2).fz 3; have z4 := (hb2).fz 4
  have HE := zI (yI hb2.res hfw)
  unfold badV
  clear hf2 hb2 hfw
  generalize w2 = W2 at *
  go_wp2
  have hw9 := set5 HE.out.1 (.int .i64 62) (.string ⟨#[]⟩) (.string ⟨#[]⟩) (.int .i64 0) (.slice none 0 0)
  have hf9 := fp5 (S := Non) HE.out.2 (b := w.heap.size + 1) (.inr (by omega)) (.int .i64 62) (.string ⟨#[]⟩) (.string ⟨#[]⟩) (.int .i64 0) (.slice none 0 0)
  generalize (((((World.setCell W2 _ _).setCell _ _).setCell _ _).setCell _ _).setCell _ _) = w9 at *
  obtain ⟨s0, s1, s2, s3, s4⟩ := b5 hw9
  exact bodyPost_ret (v := .agg #[.int .i64 62, .string ⟨#[]⟩, .string ⟨#[]⟩, .int .i64 0, .slice none 0 0]) (by simp [results, Tryz.results155, go_sem, s0, s1, s2, s3, s4]) rfl (by rw [HC.out.1, HC.out.2]; exact MeR.still HX.out.1 (r := .bad 62) (nv := .slice none 0 0) hf9 (Own.nil _ _))
 | some x => ?_
 obtain ⟨hat, hx⟩ := find_at HA.out.1 hfu
 have hT2 := HX.out.1.non F2.out.1
 have hnd := hT2.row.nd (place l p) hat
 rw [hx] at hnd
 have hcr := HA.out.2.2.2
 rw [hfu] at hcr
 simp only at hcr
 have HDO := zI (fun w' f => HA.out.2.2.1 x w' hfu f)
 obtain ⟨at_, hatE⟩ : ∃ at_, place l p = at_ := ⟨_, rfl⟩
 simp only [hatE] at hnd HDO ⊢
 rw [hatE] at hat
 have cb := hT2.c0
 rw [← HX.out.2.2.2.1] at cb
 have q1 : (at_ < n) = True := eq_true (by rw [HX.out.2.2.2.1]; exact hat)
 have q2 : ((at_ : Int) < (n : Int)) = True := eq_true (by rw [HX.out.2.2.2.1]; omega)
 have hbW := F2.out.2.heap HX.out.2.1.op id
 obtain ⟨o0, o1, o2, o3, o4, o5⟩ := box6 hbW
 have c2 := hnd.c2
 simp only [Nat.zero_add] at c2
 obtain ⟨xp, xd, xv, xt, xo⟩ := x
 simp only at c2 hcr
 have HHC := zI hcr
 have fat := fields_at3
 have fbt : bits BinOp.and IntKind.i64 6 4 = 4 := by kernel_rfl
 clear hT2 hnd hcr hat hfu hx hatE hbW o1 o2 o4 o5
 by_cases hv1 : v = -1
 ·have q3 : (v == -1) = true := beq_iff_eq.2 hv1
  have q4 : (v = -1) = True := eq_true hv1
  have q7 : (v != -1) = false := by rw [bne, q3]; rfl
  have HC : Hid ((l', r') = doit l ⟨3, p, d, v, ow, t⟩ ⟨xp, xd, xv, xt, xo⟩) := by have hcr := HHC.out; rw [if_neg (fun k => k.2.1 hv1)] at hcr; exact hcr
  clear HHC hv1
  go_wp2_with fail
  refine wp_region_held_drew (S := (fun w' => w'.cell? ⟨w.heap.size, 0, none⟩ = some (.int .i64 3) ∧ w'.cell? ⟨w.heap.size, 3, none⟩ = some (.int .i64 v) ∧ w'.cell? ⟨b, 0, none⟩ = some (.slice (some ⟨G, 0, none⟩) n cap) ∧ w'.cell? ⟨G, at_ * 5 + 2, none⟩ = some (.int .i64 xv))) (by kernel_rfl) ?_ (fun hH => ?_)
  ·exact ⟨(Fp.refl Non _).drew.cell o0 id, (Fp.refl Non _).drew.cell o3 id, (Fp.refl Non _).drew.cell cb id, (Fp.refl Non _).drew.cell c2 id⟩
  have HSD := zI (fun w9 (hf : Fp Non w2.drew w9) => yI (hf.cell ((Fp.refl Non w2).drew.cell o0 id) id) (yI (hf.cell ((Fp.refl Non w2).drew.cell o3 id) id) (yI (hf.cell ((Fp.refl Non w2).drew.cell cb id) id) (hf.cell ((Fp.refl Non w2).drew.cell c2 id) id))))
  have F3 := zI (yI F2.out.1.drew F2.out.2.drew)
  clear o0 o3 cb c2
  generalize w2.drew = w3 at *
  refine tk 1 hH ?_
  refine tk 2 hH ?_
  refine rY 0 fun K hK => ?_
  go_simp
  go_at_call 79
  refine (fields_c _).mono ?_
  rintro e w4 ⟨rfl, hf4⟩
  have HS4 := zI (HSD.out w4 hf4)
  have F4 := zI (yI (F3.out.1.then hf4) (F3.out.2.then hf4))
  clear hf4 HSD F3
  go_wp2_with fail
  refine hK.out _ _ HS4.out (fun hH => ?_)
  clear hK K
  try simp only [zz]
  refine tk 3 hH ?_
  refine tk 4 hH ?_
  refine tk 5 hH ?_
  refine tk 6 hH ?_
  refine tk 7 hH ?_
  refine tk 8 hH ?_
  refine tk 9 hH ?_
  refine tk 10 hH ?_
  refine tk 11 hH ?_
  refine sk 12 hH ?_
  refine sk 13 hH ?_
  refine sk 14 hH ?_
  refine sk 15 hH ?_
  refine sk 16 hH ?_
  refine sk 17 hH ?_
  refine sk 18 hH ?_
  refine sk 19 hH ?_
  refine sk 20 hH ?_
  refine sk 21 hH ?_
  refine sk 22 hH ?_
  refine tk 23 hH ?_
  refine dn ?_
  clear hH
  have gc := F4.out.1.cell HA.out.2.1 id
  obtain ⟨o0, o1, o2, o3, o4, o5⟩ := box6 (F4.out.2.heap HX.out.2.1.op id)
  obtain ⟨re, rp, rd, rv, rn⟩ := r'
  have hdo := HDO.out _ F4.out.1
  rw [← HC.out] at hdo
  have HDC := zI hdo
  clear hdo HDO HC HS4 F2
  go_wp2_with fail
  rw [hen _ _]
  go_wp2_with fail
  refine HDC.out.mono ?_
  intro e w5 hM
  obtain ⟨nv, G', cap', rfl, ho, ht, hg⟩ := hM.ex
  have hfw := hM.fp
  have hnG : ∀ k, ownT b G k → k < w.heap.size := fun k hk => by
   rcases hk with hk | hk
   ·rw [hk]; exact HX.out.1.lt
   rw [hk]; exact HX.out.1.row.lt
  have hb5 := (HX.out.2.1.non F4.out.2).keep hfw (fun k hk => .inl (hnG k hk))
  have h4s : w.heap.size + 2 ≤ w4.heap.size := Nat.le_trans HX.out.2.1.sz F4.out.2.size
  have hf5 : Fp (ownT b G) w w5 := (F4.out.1.any (S := ownT b G)).same hfw
  have hnv := fun k e => (ho.1.lt k e).1
  have HNV := zI (show nv.ownBlock = some (w.heap.size + 1) → False from fun e => by have := hnv _ e; omega)
  have HGN := zI (yI (show b ≠ w.heap.size + 1 by have := hnG b (.inl rfl); omega) (show G' ≠ w.heap.size + 1 by
   rcases hg with e | e
   ·have := hnG G (.inr rfl); omega
   have : w4.heap.size ≤ G' := e; omega))
  have HG2 := zI (show G' = G ∨ w.heap.size ≤ G' by
   rcases hg with e | e
   ·exact .inl e
   exact .inr (by have : w4.heap.size ≤ G' := e; omega))
  have ho2 : Own w.heap.size w5 nv rn := ho.low F4.out.1.size
  obtain ⟨vao, vcap, hvs⟩ := ho2.shape
  have HE := zI (yI hb5.res (yI hf5 (yI ht ho2)))
  unfold strV
  obtain ⟨r0, r1, r2, r3, r4⟩ := (hb5).r
  have z0 := (hb5).fz 0; have z1 := (hb5).fz 1; have z2 := (hb5).fz 2; have z3 := (hb5).fz 3; have z4 := (hb5).fz 4
  clear hM hfw hnG hb5 h4s hf5 hnv hg ho ht ho2 HDC gc o0 o1 o2 o3 o4 o5
  subst hvs
  generalize w5 = W5 at *
  go_wp2
  have hT9 := HE.out.2.2.1.keep (fp5 (S := fun k => k = w.heap.size + 1) (Fp.refl _ W5) (b := w.heap.size + 1) (.inl rfl) (.int .i64 re) (.string (B rp)) (.string (B rd)) (.int .i64 rv) (.slice vao rn.length vcap)) (fun e => HGN.out.1 e) (fun e => HGN.out.2 e)
  have HO9 := own5 HE.out.2.2.2 (b := w.heap.size + 1) (fun e => HNV.out e) (.int .i64 re) (.string (B rp)) (.string (B rd)) (.int .i64 rv) (.slice vao rn.length vcap)
  have hw9 := set5 HE.out.1 (.int .i64 re) (.string (B rp)) (.string (B rd)) (.int .i64 rv) (.slice vao rn.length vcap)
  have hf9 := fp5 (S := ownT b G) HE.out.2.1 (b := w.heap.size + 1) (.inr (by omega)) (.int .i64 re) (.string (B rp)) (.string (B rd)) (.int .i64 rv) (.slice vao rn.length vcap)
  generalize (((((World.setCell W5 _ _).setCell _ _).setCell _ _).setCell _ _).setCell _ _) = w9 at *
  obtain ⟨s0, s1, s2, s3, s4⟩ := b5 hw9
  exact bodyPost_ret (v := .agg #[.int .i64 re, .string (B rp), .string (B rd), .int .i64 rv, .slice vao rn.length vcap]) (by simp [results, Tryz.results155, go_sem, s0, s1, s2, s3, s4]) rfl (MeR.of (r := ⟨re, rp, rd, rv, rn⟩) (nv := .slice vao rn.length vcap) hT9 HG2.out hf9 HO9)
 have q3 : (v == -1) = false := beq_eq_false_iff_ne.2 hv1
 have q4 : (v = -1) = False := eq_false hv1
 have q7 : (v != -1) = true := by rw [bne, q3]; rfl
 by_cases hv2 : v = xv
 ·have q5 : (v == xv) = true := beq_iff_eq.2 hv2
  have q6 : (v = xv) = True := eq_true hv2
  have q8 : (v != xv) = false := by rw [bne, q5]; rfl
  have HC : Hid ((l', r') = doit l ⟨3, p, d, v, ow, t⟩ ⟨xp, xd, xv, xt, xo⟩) := by have hcr := HHC.out; rw [if_neg (fun k => k.2.2 hv2)] at hcr; exact hcr
  clear HHC hv1 hv2
  go_wp2_with fail
  refine wp_region_held_drew (S := (fun w' => w'.cell? ⟨w.heap.size, 0, none⟩ = some (.int .i64 3) ∧ w'.cell? ⟨w.heap.size, 3, none⟩ = some (.int .i64 v) ∧ w'.cell? ⟨b, 0, none⟩ = some (.slice (some ⟨G, 0, none⟩) n cap) ∧ w'.cell? ⟨G, at_ * 5 + 2, none⟩ = some (.int .i64 xv))) (by kernel_rfl) ?_ (fun hH => ?_)
  ·exact ⟨(Fp.refl Non _).drew.cell o0 id, (Fp.refl Non _).drew.cell o3 id, (Fp.refl Non _).drew.cell cb id, (Fp.refl Non _).drew.cell c2 id⟩
  have HSD := zI (fun w9 (hf : Fp Non w2.drew w9) => yI (hf.cell ((Fp.refl Non w2).drew.cell o0 id) id) (yI (hf.cell ((Fp.refl Non w2).drew.cell o3 id) id) (yI (hf.cell ((Fp.refl Non w2).drew.cell cb id) id) (hf.cell ((Fp.refl Non w2).drew.cell c2 id) id))))
  have F3 := zI (yI F2.out.1.drew F2.out.2.drew)
  clear o0 o3 cb c2
  generalize w2.drew = w3 at *
  refine tk 1 hH ?_
  refine tk 2 hH ?_
  refine rY 0 fun K hK => ?_
  go_simp
  go_at_call 79
  refine (fields_c _).mono ?_
  rintro e w4 ⟨rfl, hf4⟩
  have HS4 := zI (HSD.out w4 hf4)
  have F4 := zI (yI (F3.out.1.then hf4) (F3.out.2.then hf4))
  clear hf4 HSD F3
  go_wp2_with fail
  refine hK.out _ _ HS4.out (fun hH => ?_)
  clear hK K
  try simp only [zz]
  refine tk 3 hH ?_
  refine tk 4 hH ?_
  refine tk 5 hH ?_
  refine tk 6 hH ?_
  refine tk 7 hH ?_
  refine tk 8 hH ?_
  refine tk 9 hH ?_
  refine tk 10 hH ?_
  refine tk 11 hH ?_
  refine tk 12 hH ?_
  refine tk 13 hH ?_
  refine tk 14 hH ?_
  refine tk 15 hH ?_
  refine tk 16 hH ?_
  refine tk 17 hH ?_
  refine tk 18 hH ?_
  refine tk 19 hH ?_
  refine tk 20 hH ?_
  refine tk 21 hH ?_
  refine tk 22 hH ?_
  refine tk 23 hH ?_
  refine dn ?_
  clear hH
  have gc := F4.out.1.cell HA.out.2.1 id
  obtain ⟨o0, o1, o2, o3, o4, o5⟩ := box6 (F4.out.2.heap HX.out.2.1.op id)
  obtain ⟨re, rp, rd, rv, rn⟩ := r'
  have hdo := HDO.out _ F4.out.1
  rw [← HC.out] at hdo
  have HDC := zI hdo
  clear hdo HDO HC HS4 F2
  go_wp2_with fail
  rw [hen _ _]
  go_wp2_with fail
  refine HDC.out.mono ?_
  intro e w5 hM
  obtain ⟨nv, G', cap', rfl, ho, ht, hg⟩ := hM.ex
  have hfw := hM.fp
  have hnG : ∀ k, ownT b G k → k < w.heap.size := fun k hk => by
   rcases hk with hk | hk
   ·rw [hk]; exact HX.out.1.lt
   rw [hk]; exact HX.out.1.row.lt
  have hb5 := (HX.out.2.1.non F4.out.2).keep hfw (fun k hk => .inl (hnG k hk))
  have h4s : w.heap.size + 2 ≤ w4.heap.size := Nat.le_trans HX.out.2.1.sz F4.out.2.size
  have hf5 : Fp (ownT b G) w w5 := (F4.out.1.any (S := ownT b G)).same hfw
  have hnv := fun k e => (ho.1.lt k e).1
  have HNV := zI (show nv.ownBlock = some (w.heap.size + 1) → False from fun e => by have := hnv _ e; omega)
  have HGN := zI (yI (show b ≠ w.heap.size + 1 by have := hnG b (.inl rfl); omega) (show G' ≠ w.heap.size + 1 by
   rcases hg with e | e
   ·have := hnG G (.inr rfl); omega
   have : w4.heap.size ≤ G' := e; omega))
  have HG2 := zI (show G' = G ∨ w.heap.size ≤ G' by
   rcases hg with e | e
   ·exact .inl e
   exact .inr (by have : w4.heap.size ≤ G' := e; omega))
  have ho2 : Own w.heap.size w5 nv rn := ho.low F4.out.1.size
  obtain ⟨vao, vcap, hvs⟩ := ho2.shape
  have HE := zI (yI hb5.res (yI hf5 (yI ht ho2)))
  unfold strV
  obtain ⟨r0, r1, r2, r3, r4⟩ := (hb5).r
  have z0 := (hb5).fz 0; have z1 := (hb5).fz 1; have z2 := (hb5).fz 2; have z3 := (hb5).fz 3; have z4 := (hb5).fz 4
  clear hM hfw hnG hb5 h4s hf5 hnv hg ho ht ho2 HDC gc o0 o1 o2 o3 o4 o5
  subst hvs
  generalize w5 = W5 at *
  go_wp2
  have hT9 := HE.out.2.2.1.keep (fp5 (S := fun k => k = w.heap.size + 1) (Fp.refl _ W5) (b := w.heap.size + 1) (.inl rfl) (.int .i64 re) (.string (B rp)) (.string (B rd)) (.int .i64 rv) (.slice vao rn.length vcap)) (fun e => HGN.out.1 e) (fun e => HGN.out.2 e)
  have HO9 := own5 HE.out.2.2.2 (b := w.heap.size + 1) (fun e => HNV.out e) (.int .i64 re) (.string (B rp)) (.string (B rd)) (.int .i64 rv) (.slice vao rn.length vcap)
  have hw9 := set5 HE.out.1 (.int .i64 re) (.string (B rp)) (.string (B rd)) (.int .i64 rv) (.slice vao rn.length vcap)
  have hf9 := fp5 (S := ownT b G) HE.out.2.1 (b := w.heap.size + 1) (.inr (by omega)) (.int .i64 re) (.string (B rp)) (.string (B rd)) (.int .i64 rv) (.slice vao rn.length vcap)
  generalize (((((World.setCell W5 _ _).setCell _ _).setCell _ _).setCell _ _).setCell _ _) = w9 at *
  obtain ⟨s0, s1, s2, s3, s4⟩ := b5 hw9
  exact bodyPost_ret (v := .agg #[.int .i64 re, .string (B rp), .string (B rd), .int .i64 rv, .slice vao rn.length vcap]) (by simp [results, Tryz.results155, go_sem, s0, s1, s2, s3, s4]) rfl (MeR.of (r := ⟨re, rp, rd, rv, rn⟩) (nv := .slice vao rn.length vcap) hT9 HG2.out hf9 HO9)
 have q5 : (v == xv) = false := beq_eq_false_iff_ne.2 hv2
 have q6 : (v = xv) = False := eq_false hv2
 have q8 : (v != xv) = true := by rw [bne, q5]; rfl
 have HC := zI (show l' = l ∧ r' = .bad 63 from by have hcr := HHC.out; rw [if_pos ⟨trivial, hv1, hv2⟩] at hcr; injection hcr with a b; exact ⟨a, b⟩)
 clear HHC hv1 hv2
 go_wp2_with fail
 refine wp_region_held_drew (S := (fun w' => w'.cell? ⟨w.heap.size, 0, none⟩ = some (.int .i64 3) ∧ w'.cell? ⟨w.heap.size, 3, none⟩ = some (.int .i64 v) ∧ w'.cell? ⟨b, 0, none⟩ = some (.slice (some ⟨G, 0, none⟩) n cap) ∧ w'.cell? ⟨G, at_ * 5 + 2, none⟩ = some (.int .i64 xv))) (by kernel_rfl) ?_ (fun hH => ?_)
 ·exact ⟨(Fp.refl Non _).drew.cell o0 id, (Fp.refl Non _).drew.cell o3 id, (Fp.refl Non _).drew.cell cb id, (Fp.refl Non _).drew.cell c2 id⟩
 have HSD := zI (fun w9 (hf : Fp Non w2.drew w9) => yI (hf.cell ((Fp.refl Non w2).drew.cell o0 id) id) (yI (hf.cell ((Fp.refl Non w2).drew.cell o3 id) id) (yI (hf.cell ((Fp.refl Non w2).drew.cell cb id) id) (hf.cell ((Fp.refl Non w2).drew.cell c2 id) id))))
 have F3 := zI (yI F2.out.1.drew F2.out.2.drew)
 clear o0 o3 cb c2
 generalize w2.drew = w3 at *
 refine tk 1 hH ?_
 refine tk 2 hH ?_
 refine rY 0 fun K hK => ?_
 go_simp
 go_at_call 79
 refine (fields_c _).mono ?_
 rintro e w4 ⟨rfl, hf4⟩
 have HS4 := zI (HSD.out w4 hf4)
 have F4 := zI (yI (F3.out.1.then hf4) (F3.out.2.then hf4))
 clear hf4 HSD F3
 go_wp2_with fail
 refine hK.out _ _ HS4.out (fun hH => ?_)
 clear hK K
 try simp only [zz]
 refine tk 3 hH ?_
 refine tk 4 hH ?_
 refine tk 5 hH ?_
 refine tk 6 hH ?_
 refine tk 7 hH ?_
 refine tk 8 hH ?_
 refine tk 9 hH ?_
 refine tk 10 hH ?_
 refine tk 11 hH ?_
 refine tk 12 hH ?_
 refine tk 13 hH ?_
 refine tk 14 hH ?_
 refine tk 15 hH ?_
 refine tk 16 hH ?_
 refine tk 17 hH ?_
 refine tk 18 hH ?_
 refine tk 19 hH ?_
 refine tk 20 hH ?_
 refine tk 21 hH ?_
 refine tk 22 hH ?_
 refine tk 23 hH ?_
 refine dn ?_
 have hb2 := HX.out.2.1.non F4.out.2
 obtain ⟨r0, r1, r2, r3, r4⟩ := (hb2).r
 have z0 := (hb2).fz 0; have z1 := (hb2).fz 1; have z2 := (hb2).fz 2; have z3 := (hb2).fz 3; have z4 := (hb2).fz 4
 clear hb2
 go_wp2_with fail
 refine (refused_c 63 _).mono ?_
 rintro e w2 ⟨rfl, hf2⟩
 have hb2 := HX.out.2.1.non (F4.out.2.then hf2)
 have hfw := F4.out.1.then hf2
 clear r0 r1 r2 r3 r4 z0 z1 z2 z3 z4
 obtain ⟨r0, r1, r2, r3, r4⟩ := (hb2).r
 have z0 := (hb2).fz 0; have z1 := (hb2).fz 1; have z2 := (hb2).fz 2; have z3 := (hb2).fz 3; have z4 := (hb2).fz 4
 have HE := zI (yI hb2.res hfw)
 unfold badV
 clear hf2 hb2 hfw
 generalize w2 = W2 at *
 go_wp2
 have hw9 := set5 HE.out.1 (.int .i64 63) (.string ⟨#[]⟩) (.string ⟨#[]⟩) (.int .i64 0) (.slice none 0 0)
 have hf9 := fp5 (S := Non) HE.out.2 (b := w.heap.size + 1) (.inr (by omega)) (.int .i64 63) (.string ⟨#[]⟩) (.string ⟨#[]⟩) (.int .i64 0) (.slice none 0 0)
 generalize (((((World.setCell W2 _ _).setCell _ _).setCell _ _).setCell _ _).setCell _ _) = w9 at *
 obtain ⟨s0, s1, s2, s3, s4⟩ := b5 hw9
 exact bodyPost_ret (v := .agg #[.int .i64 63, .string ⟨#[]⟩, .string ⟨#[]⟩, .int .i64 0, .slice none 0 0]) (by simp [results, Tryz.results155, go_sem, s0, s1, s2, s3, s4]) rfl (by rw [HC.out.1, HC.out.2]; exact MeR.still HX.out.1 (r := .bad 63) (nv := .slice none 0 0) hf9 (Own.nil _ _))
set_option maxHeartbeats 8000000 in
theorem existing_4 {lo b G cap : Nat} {l : List Nd} {w : World} (h : Tn lo b G cap l w) (hs : Sp l) (hl : l.length ≤ 512) (hlo : lo ≤ w.heap.size) (ha : Asc l) (p d : Bs) (v ow : Int) (t : Bool) (g : Nat) (fk : Nat) (hg : w.cell? ⟨g, 0, none⟩ = some (.func (.func fk) #[] #[])) (hen : Enters Tryz.prog fk)
  (hdo : Does lo b G cap l ⟨4, p, d, v, ow, t⟩ w fk) :
  Calls Tryz.prog 155 #[.pointer (some ⟨b, 0, none⟩), opV ⟨4, p, d, v, ow, t⟩, .pointer (some ⟨g, 0, none⟩)] w (MeR lo b G (perform l ⟨4, p, d, v, ow, t⟩).1 (perform l ⟨4, p, d, v, ow, t⟩).2 w) := by
 have hcr : perform l ⟨4, p, d, v, ow, t⟩ = (match find l p with
   | none => (l, .bad 62)
   | some x => if True ∧ v ≠ -1 ∧ v ≠ x.ver then (l, .bad 63) else doit l ⟨4, p, d, v, ow, t⟩ x) := by
  unfold perform; simp [versioned]
  try (cases find l p <;> rfl)
 obtain ⟨cr, hcr2⟩ : ∃ cr, perform l ⟨4, p, d, v, ow, t⟩ = cr := ⟨_, rfl⟩
 rw [hcr2] at hcr ⊢
 obtain ⟨l', r'⟩ := cr
 simp only
 unfold opV strV
 have hbx := Bx.made w 4 p d v ow t
 have hf0 : Fp Non w ((w.alloc (.cells #[.int .i64 4, .string (B p), .string (B d), .int .i64 v, .int .i64 ow, .bool t] TO_)).alloc (.cells #[.int .i64 0, .string ⟨#[]⟩, .string ⟨#[]⟩, .int .i64 0, .slice none 0 0] TR)) := ((Fp.refl Non w).alloc _).alloc _
 have op1 : (((w.alloc (.cells #[.int .i64 4, .string (B p), .string (B d), .int .i64 v, .int .i64 ow, .bool t] TO_)).alloc (.cells #[.int .i64 0, .string ⟨#[]⟩, .string ⟨#[]⟩, .int .i64 0, .slice none 0 0] TR))).cell? ⟨w.heap.size, 1, none⟩ = some (.string (B p)) := by rw [cell_of_row _ _ _ _ _ _ hbx.op]; rfl
 have hpc := place_c (h.non hf0) p ha (by omega)
 have HPC := zI hpc
 obtain ⟨n, hn⟩ : ∃ n, n = l.length := ⟨_, rfl⟩
 have HX := zI (yI h (yI hbx (yI hf0 (yI hn (yI hs (yI hl hlo))))))
 have HA := zI (yI ha (yI hg (yI hdo hcr)))
 clear hpc h hbx hf0 hn hs hl hlo ha hg hdo hcr hcr2
 go_enter Tryz.func155, Tryz.ntmps155
 generalize hW0 : ((w.alloc (.cells #[.int .i64 4, .string (B p), .string (B d), .int .i64 v, .int .i64 ow, .bool t] TO_)).alloc (.cells #[.int .i64 0, .string ⟨#[]⟩, .string ⟨#[]⟩, .int .i64 0, .slice none 0 0] TR)) = W0 at *
 go_wp2_with fail
 clear hW0
 refine HPC.out.mono ?_
 rintro e w2 ⟨rfl, hf2⟩
 have F2 := zI (yI (HX.out.2.2.1.then hf2) hf2)
 clear hf2 HPC op1
 cases hfu : find l p with
 | none =>
  have hcr := HA.out.2.2.2
  rw [hfu] at hcr
  have HC := zI (show l' = l ∧ r' = .bad 62 from by injection hcr with a b; exact ⟨a, b⟩)
  clear hcr hfu
  have hb2 := HX.out.2.1.non F2.out.2
  obtain ⟨r0, r1, r2, r3, r4⟩ := (hb2).r
  have z0 := (hb2).fz 0; have z1 := (hb2).fz 1; have z2 := (hb2).fz 2; have z3 := (hb2).fz 3; have z4 := (hb2).fz 4
  clear hb2
  go_wp2_with fail
  refine (refused_c 62 _).mono ?_
  rintro e w2 ⟨rfl, hf2⟩
  have hb2 := HX.out.2.1.non (F2.out.2.then hf2)
  have hfw := F2.out.1.then hf2
  clear r0 r1 r2 r3 r4 z0 z1 z2 z3 z4
  obtain ⟨r0, r1, r2, r3, r4⟩ := (hb2).r
  have z0 := (hb2).fz 0; have z1 := (hb2).fz 1; have z2 := (hb2).fz 2; have z3 := (hb2).fz 3; have z4 := (hb2).fz 4
  have HE := zI (yI hb2.res hfw)
  unfold badV
  clear hf2 hb2 hfw
  generalize w2 = W2 at *
  go_wp2
  have hw9 := set5 HE.out.1 (.int .i64 62) (.string ⟨#[]⟩) (.string ⟨#[]⟩) (.int .i64 0) (.slice none 0 0)
  have hf9 := fp5 (S := Non) HE.out.2 (b := w.heap.size + 1) (.inr (by omega)) (.int .i64 62) (.string ⟨#[]⟩) (.string ⟨#[]⟩) (.int .i64 0) (.slice none 0 0)
  generalize (((((World.setCell W2 _ _).setCell _ _).setCell _ _).setCell _ _).setCell _ _) = w9 at *
  obtain ⟨s0, s1, s2, s3, s4⟩ := b5 hw9
  exact bodyPost_ret (v := .agg #[.int .i64 62, .string ⟨#[]⟩, .string ⟨#[]⟩, .int .i64 0, .slice none 0 0]) (by simp [results, Tryz.results155, go_sem, s0, s1, s2, s3, s4]) rfl (by rw [HC.out.1, HC.out.2]; exact MeR.still HX.out.1 (r := .bad 62) (nv := .slice none 0 0) hf9 (Own.nil _ _))
 | some x => ?_
 obtain ⟨hat, hx⟩ := find_at HA.out.1 hfu
 have hT2 := HX.out.1.non F2.out.1
 have hnd := hT2.row.nd (place l p) hat
 rw [hx] at hnd
 have hcr := HA.out.2.2.2
 rw [hfu] at hcr
 simp only at hcr
 have HDO := zI (fun w' f => HA.out.2.2.1 x w' hfu f)
 obtain ⟨at_, hatE⟩ : ∃ at_, place l p = at_ := ⟨_, rfl⟩
 simp only [hatE] at hnd HDO ⊢
 rw [hatE] at hat
 have cb := hT2.c0
 rw [← HX.out.2.2.2.1] at cb
 have q1 : (at_ < n) = True := eq_true (by rw [HX.out.2.2.2.1]; exact hat)
 have q2 : ((at_ : Int) < (n : Int)) = True := eq_true (by rw [HX.out.2.2.2.1]; omega)
 have hbW := F2.out.2.heap HX.out.2.1.op id
 obtain ⟨o0, o1, o2, o3, o4, o5⟩ := box6 hbW
 have c2 := hnd.c2
 simp only [Nat.zero_add] at c2
 obtain ⟨xp, xd, xv, xt, xo⟩ := x
 simp only at c2 hcr
 have HHC := zI hcr
 have fat := fields_at4
 have fbt : bits BinOp.and IntKind.i64 4 4 = 4 := by kernel_rfl
 clear hT2 hnd hcr hat hfu hx hatE hbW o1 o2 o4 o5
 by_cases hv1 : v = -1
 ·have q3 : (v == -1) = true := beq_iff_eq.2 hv1
  have q4 : (v = -1) = True := eq_true hv1
  have q7 : (v != -1) = false := by rw [bne, q3]; rfl
  have HC : Hid ((l', r') = doit l ⟨4, p, d, v, ow, t⟩ ⟨xp, xd, xv, xt, xo⟩) := by have hcr := HHC.out; rw [if_neg (fun k => k.2.1 hv1)] at hcr; exact hcr
  clear HHC hv1
  go_wp2_with fail
  refine wp_region_held_drew (S := (fun w' => w'.cell? ⟨w.heap.size, 0, none⟩ = some (.int .i64 4) ∧ w'.cell? ⟨w.heap.size, 3, none⟩ = some (.int .i64 v) ∧ w'.cell? ⟨b, 0, none⟩ = some (.slice (some ⟨G, 0, none⟩) n cap) ∧ w'.cell? ⟨G, at_ * 5 + 2, none⟩ = some (.int .i64 xv))) (by kernel_rfl) ?_ (fun hH => ?_)
  ·exact ⟨(Fp.refl Non _).drew.cell o0 id, (Fp.refl Non _).drew.cell o3 id, (Fp.refl Non _).drew.cell cb id, (Fp.refl Non _).drew.cell c2 id⟩
  have HSD := zI (fun w9 (hf : Fp Non w2.drew w9) => yI (hf.cell ((Fp.refl Non w2).drew.cell o0 id) id) (yI (hf.cell ((Fp.refl Non w2).drew.cell o3 id) id) (yI (hf.cell ((Fp.refl Non w2).drew.cell cb id) id) (hf.cell ((Fp.refl Non w2).drew.cell c2 id) id))))
  have F3 := zI (yI F2.out.1.drew F2.out.2.drew)
  clear o0 o3 cb c2
  generalize w2.drew = w3 at *
  refine tk 1 hH ?_
  refine tk 2 hH ?_
  refine rY 0 fun K hK => ?_
  go_simp
  go_at_call 79
  refine (fields_c _).mono ?_
  rintro e w4 ⟨rfl, hf4⟩
  have HS4 := zI (HSD.out w4 hf4)
  have F4 := zI (yI (F3.out.1.then hf4) (F3.out.2.then hf4))
  clear hf4 HSD F3
  go_wp2_with fail
  refine hK.out _ _ HS4.out (fun hH => ?_)
  clear hK K
  try simp only [zz]
  refine tk 3 hH ?_
  refine tk 4 hH ?_
  refine tk 5 hH ?_
  refine tk 6 hH ?_
  refine tk 7 hH ?_
  refine tk 8 hH ?_
  refine tk 9 hH ?_
  refine tk 10 hH ?_
  refine tk 11 hH ?_
  refine sk 12 hH ?_
  refine sk 13 hH ?_
  refine sk 14 hH ?_
  refine sk 15 hH ?_
  refine sk 16 hH ?_
  refine sk 17 hH ?_
  refine sk 18 hH ?_
  refine sk 19 hH ?_
  refine sk 20 hH ?_
  refine sk 21 hH ?_
  refine sk 22 hH ?_
  refine tk 23 hH ?_
  refine dn ?_
  clear hH
  have gc := F4.out.1.cell HA.out.2.1 id
  obtain ⟨o0, o1, o2, o3, o4, o5⟩ := box6 (F4.out.2.heap HX.out.2.1.op id)
  obtain ⟨re, rp, rd, rv, rn⟩ := r'
  have hdo := HDO.out _ F4.out.1
  rw [← HC.out] at hdo
  have HDC := zI hdo
  clear hdo HDO HC HS4 F2
  go_wp2_with fail
  rw [hen _ _]
  go_wp2_with fail
  refine HDC.out.mono ?_
  intro e w5 hM
  obtain ⟨nv, G', cap', rfl, ho, ht, hg⟩ := hM.ex
  have hfw := hM.fp
  have hnG : ∀ k, ownT b G k → k < w.heap.size := fun k hk => by
   rcases hk with hk | hk
   ·rw [hk]; exact HX.out.1.lt
   rw [hk]; exact HX.out.1.row.lt
  have hb5 := (HX.out.2.1.non F4.out.2).keep hfw (fun k hk => .inl (hnG k hk))
  have h4s : w.heap.size + 2 ≤ w4.heap.size := Nat.le_trans HX.out.2.1.sz F4.out.2.size
  have hf5 : Fp (ownT b G) w w5 := (F4.out.1.any (S := ownT b G)).same hfw
  have hnv := fun k e => (ho.1.lt k e).1
  have HNV := zI (show nv.ownBlock = some (w.heap.size + 1) → False from fun e => by have := hnv _ e; omega)
  have HGN := zI (yI (show b ≠ w.heap.size + 1 by have := hnG b (.inl rfl); omega) (show G' ≠ w.heap.size + 1 by
   rcases hg with e | e
   ·have := hnG G (.inr rfl); omega
   have : w4.heap.size ≤ G' := e; omega))
  have HG2 := zI (show G' = G ∨ w.heap.size ≤ G' by
   rcases hg with e | e
   ·exact .inl e
   exact .inr (by have : w4.heap.size ≤ G' := e; omega))
  have ho2 : Own w.heap.size w5 nv rn := ho.low F4.out.1.size
  obtain ⟨vao, vcap, hvs⟩ := ho2.shape
  have HE := zI (yI hb5.res (yI hf5 (yI ht ho2)))
  unfold strV
  obtain ⟨r0, r1, r2, r3, r4⟩ := (hb5).r
  have z0 := (hb5).fz 0; have z1 := (hb5).fz 1; have z2 := (hb5).fz 2; have z3 := (hb5).fz 3; have z4 := (hb5).fz 4
  clear hM hfw hnG hb5 h4s hf5 hnv hg ho ht ho2 HDC gc o0 o1 o2 o3 o4 o5
  subst hvs
  generalize w5 = W5 at *
  go_wp2
  have hT9 := HE.out.2.2.1.keep (fp5 (S := fun k => k = w.heap.size + 1) (Fp.refl _ W5) (b := w.heap.size + 1) (.inl rfl) (.int .i64 re) (.string (B rp)) (.string (B rd)) (.int .i64 rv) (.slice vao rn.length vcap)) (fun e => HGN.out.1 e) (fun e => HGN.out.2 e)
  have HO9 := own5 HE.out.2.2.2 (b := w.heap.size + 1) (fun e => HNV.out e) (.int .i64 re) (.string (B rp)) (.string (B rd)) (.int .i64 rv) (.slice vao rn.length vcap)
  have hw9 := set5 HE.out.1 (.int .i64 re) (.string (B rp)) (.string (B rd)) (.int .i64 rv) (.slice vao rn.length vcap)
  have hf9 := fp5 (S := ownT b G) HE.out.2.1 (b := w.heap.size + 1) (.inr (by omega)) (.int .i64 re) (.string (B rp)) (.string (B rd)) (.int .i64 rv) (.slice vao rn.length vcap)
  generalize (((((World.setCell W5 _ _).setCell _ _).setCell _ _).setCell _ _).setCell _ _) = w9 at *
  obtain ⟨s0, s1, s2, s3, s4⟩ := b5 hw9
  exact bodyPost_ret (v := .agg #[.int .i64 re, .string (B rp), .string (B rd), .int .i64 rv, .slice vao rn.length vcap]) (by simp [results, Tryz.results155, go_sem, s0, s1, s2, s3, s4]) rfl (MeR.of (r := ⟨re, rp, rd, rv, rn⟩) (nv := .slice vao rn.length vcap) hT9 HG2.out hf9 HO9)
 have q3 : (v == -1) = false := beq_eq_false_iff_ne.2 hv1
 have q4 : (v = -1) = False := eq_false hv1
 have q7 : (v != -1) = true := by rw [bne, q3]; rfl
 by_cases hv2 : v = xv
 ·have q5 : (v == xv) = true := beq_iff_eq.2 hv2
  have q6 : (v = xv) = True := eq_true hv2
  have q8 : (v != xv) = false := by rw [bne, q5]; rfl
  have HC : Hid ((l', r') = doit l ⟨4, p, d, v, ow, t⟩ ⟨xp, xd, xv, xt, xo⟩) := by have hcr := HHC.out; rw [if_neg (fun k => k.2.2 hv2)] at hcr; exact hcr
  clear HHC hv1 hv2
  go_wp2_with fail
  refine wp_region_held_drew (S := (fun w' => w'.cell? ⟨w.heap.size, 0, none⟩ = some (.int .i64 4) ∧ w'.cell? ⟨w.heap.size, 3, none⟩ = some (.int .i64 v) ∧ w'.cell? ⟨b, 0, none⟩ = some (.slice (some ⟨G, 0, none⟩) n cap) ∧ w'.cell? ⟨G, at_ * 5 + 2, none⟩ = some (.int .i64 xv))) (by kernel_rfl) ?_ (fun hH => ?_)
  ·exact ⟨(Fp.refl Non _).drew.cell o0 id, (Fp.refl Non _).drew.cell o3 id, (Fp.refl Non _).drew.cell cb id, (Fp.refl Non _).drew.cell c2 id⟩
  have HSD := zI (fun w9 (hf : Fp Non w2.drew w9) => yI (hf.cell ((Fp.refl Non w2).drew.cell o0 id) id) (yI (hf.cell ((Fp.refl Non w2).drew.cell o3 id) id) (yI (hf.cell ((Fp.refl Non w2).drew.cell cb id) id) (hf.cell ((Fp.refl Non w2).drew.cell c2 id) id))))
  have F3 := zI (yI F2.out.1.drew F2.out.2.drew)
  clear o0 o3 cb c2
  generalize w2.drew = w3 at *
  refine tk 1 hH ?_
  refine tk 2 hH ?_
  refine rY 0 fun K hK => ?_
  go_simp
  go_at_call 79
  refine (fields_c _).mono ?_
  rintro e w4 ⟨rfl, hf4⟩
  have HS4 := zI (HSD.out w4 hf4)
  have F4 := zI (yI (F3.out.1.then hf4) (F3.out.2.then hf4))
  clear hf4 HSD F3
  go_wp2_with fail
  refine hK.out _ _ HS4.out (fun hH => ?_)
  clear hK K
  try simp only [zz]
  refine tk 3 hH ?_
  refine tk 4 hH ?_
  refine tk 5 hH ?_
  refine tk 6 hH ?_
  refine tk 7 hH ?_
  refine tk 8 hH ?_
  refine tk 9 hH ?_
  refine tk 10 hH ?_
  refine tk 11 hH ?_
  refine tk 12 hH ?_
  refine tk 13 hH ?_
  refine tk 14 hH ?_
  refine tk 15 hH ?_
  refine tk 16 hH ?_
  refine tk 17 hH ?_
  refine tk 18 hH ?_
  refine tk 19 hH ?_
  refine tk 20 hH ?_
  refine tk 21 hH ?_
  refine tk 22 hH ?_
  refine tk 23 hH ?_
  refine dn ?_
  clear hH
  have gc := F4.out.1.cell HA.out.2.1 id
  obtain ⟨o0, o1, o2, o3, o4, o5⟩ := box6 (F4.out.2.heap HX.out.2.1.op id)
  obtain ⟨re, rp, rd, rv, rn⟩ := r'
  have hdo := HDO.out _ F4.out.1
  rw [← HC.out] at hdo
  have HDC := zI hdo
  clear hdo HDO HC HS4 F2
  go_wp2_with fail
  rw [hen _ _]
  go_wp2_with fail
  refine HDC.out.mono ?_
  intro e w5 hM
  obtain ⟨nv, G', cap', rfl, ho, ht, hg⟩ := hM.ex
  have hfw := hM.fp
  have hnG : ∀ k, ownT b G k → k < w.heap.size := fun k hk => by
   rcases hk with hk | hk
   ·rw [hk]; exact HX.out.1.lt
   rw [hk]; exact HX.out.1.row.lt
  have hb5 := (HX.out.2.1.non F4.out.2).keep hfw (fun k hk => .inl (hnG k hk))
  have h4s : w.heap.size + 2 ≤ w4.heap.size := Nat.le_trans HX.out.2.1.sz F4.out.2.size
  have hf5 : Fp (ownT b G) w w5 := (F4.out.1.any (S := ownT b G)).same hfw
  have hnv := fun k e => (ho.1.lt k e).1
  have HNV := zI (show nv.ownBlock = some (w.heap.size + 1) → False from fun e => by have := hnv _ e; omega)
  have HGN := zI (yI (show b ≠ w.heap.size + 1 by have := hnG b (.inl rfl); omega) (show G' ≠ w.heap.size + 1 by
   rcases hg with e | e
   ·have := hnG G (.inr rfl); omega
   have : w4.heap.size ≤ G' := e; omega))
  have HG2 := zI (show G' = G ∨ w.heap.size ≤ G' by
   rcases hg with e | e
   ·exact .inl e
   exact .inr (by have : w4.heap.size ≤ G' := e; omega))
  have ho2 : Own w.heap.size w5 nv rn := ho.low F4.out.1.size
  obtain ⟨vao, vcap, hvs⟩ := ho2.shape
  have HE := zI (yI hb5.res (yI hf5 (yI ht ho2)))
  unfold strV
  obtain ⟨r0, r1, r2, r3, r4⟩ := (hb5).r
  have z0 := (hb5).fz 0; have z1 := (hb5).fz 1; have z2 := (hb5).fz 2; have z3 := (hb5).fz 3; have z4 := (hb5).fz 4
  clear hM hfw hnG hb5 h4s hf5 hnv hg ho ht ho2 HDC gc o0 o1 o2 o3 o4 o5
  subst hvs
  generalize w5 = W5 at *
  go_wp2
  have hT9 := HE.out.2.2.1.keep (fp5 (S := fun k => k = w.heap.size + 1) (Fp.refl _ W5) (b := w.heap.size + 1) (.inl rfl) (.int .i64 re) (.string (B rp)) (.string (B rd)) (.int .i64 rv) (.slice vao rn.length vcap)) (fun e => HGN.out.1 e) (fun e => HGN.out.2 e)
  have HO9 := own5 HE.out.2.2.2 (b := w.heap.size + 1) (fun e => HNV.out e) (.int .i64 re) (.string (B rp)) (.string (B rd)) (.int .i64 rv) (.slice vao rn.length vcap)
  have hw9 := set5 HE.out.1 (.int .i64 re) (.string (B rp)) (.string (B rd)) (.int .i64 rv) (.slice vao rn.length vcap)
  have hf9 := fp5 (S := ownT b G) HE.out.2.1 (b := w.heap.size + 1) (.inr (by omega)) (.int .i64 re) (.string (B rp)) (.string (B rd)) (.int .i64 rv) (.slice vao rn.length vcap)
  generalize (((((World.setCell W5 _ _).setCell _ _).setCell _ _).setCell _ _).setCell _ _) = w9 at *
  obtain ⟨s0, s1, s2, s3, s4⟩ := b5 hw9
  exact bodyPost_ret (v := .agg #[.int .i64 re, .string (B rp), .string (B rd), .int .i64 rv, .slice vao rn.length vcap]) (by simp [results, Tryz.results155, go_sem, s0, s1, s2, s3, s4]) rfl (MeR.of (r := ⟨re, rp, rd, rv, rn⟩) (nv := .slice vao rn.length vcap) hT9 HG2.out hf9 HO9)
 have q5 : (v == xv) = false := beq_eq_false_iff_ne.2 hv2
 have q6 : (v = xv) = False := eq_false hv2
 have q8 : (v != xv) = true := by rw [bne, q5]; rfl
 have HC := zI (show l' = l ∧ r' = .bad 63 from by have hcr := HHC.out; rw [if_pos ⟨trivial, hv1, hv2⟩] at hcr; injection hcr with a b; exact ⟨a, b⟩)
 clear HHC hv1 hv2
 go_wp2_with fail
 refine wp_region_held_drew (S := (fun w' => w'.cell? ⟨w.heap.size, 0, none⟩ = some (.int .i64 4) ∧ w'.cell? ⟨w.heap.size, 3, none⟩ = some (.int .i64 v) ∧ w'.cell? ⟨b, 0, none⟩ = some (.slice (some ⟨G, 0, none⟩) n cap) ∧ w'.cell? ⟨G, at_ * 5 + 2, none⟩ = some (.int .i64 xv))) (by kernel_rfl) ?_ (fun hH => ?_)
 ·exact ⟨(Fp.refl Non _).drew.cell o0 id, (Fp.refl Non _).drew.cell o3 id, (Fp.refl Non _).drew.cell cb id, (Fp.refl Non _).drew.cell c2 id⟩
 have HSD := zI (fun w9 (hf : Fp Non w2.drew w9) => yI (hf.cell ((Fp.refl Non w2).drew.cell o0 id) id) (yI (hf.cell ((Fp.refl Non w2).drew.cell o3 id) id) (yI (hf.cell ((Fp.refl Non w2).drew.cell cb id) id) (hf.cell ((Fp.refl Non w2).drew.cell c2 id) id))))
 have F3 := zI (yI F2.out.1.drew F2.out.2.drew)
 clear o0 o3 cb c2
 generalize w2.drew = w3 at *
 refine tk 1 hH ?_
 refine tk 2 hH ?_
 refine rY 0 fun K hK => ?_
 go_simp
 go_at_call 79
 refine (fields_c _).mono ?_
 rintro e w4 ⟨rfl, hf4⟩
 have HS4 := zI (HSD.out w4 hf4)
 have F4 := zI (yI (F3.out.1.then hf4) (F3.out.2.then hf4))
 clear hf4 HSD F3
 go_wp2_with fail
 refine hK.out _ _ HS4.out (fun hH => ?_)
 clear hK K
 try simp only [zz]
 refine tk 3 hH ?_
 refine tk 4 hH ?_
 refine tk 5 hH ?_
 refine tk 6 hH ?_
 refine tk 7 hH ?_
 refine tk 8 hH ?_
 refine tk 9 hH ?_
 refine tk 10 hH ?_
 refine tk 11 hH ?_
 refine tk 12 hH ?_
 refine tk 13 hH ?_
 refine tk 14 hH ?_
 refine tk 15 hH ?_
 refine tk 16 hH ?_
 refine tk 17 hH ?_
 refine tk 18 hH ?_
 refine tk 19 hH ?_
 refine tk 20 hH ?_
 refine tk 21 hH ?_
 refine tk 22 hH ?_
 refine tk 23 hH ?_
 refine dn ?_
 have hb2 := HX.out.2.1.non F4.out.2
 obtain ⟨r0, r1, r2, r3, r4⟩ := (hb2).r
 have z0 := (hb2).fz 0; have z1 := (hb2).fz 1; have z2 := (hb2).fz 2; have z3 := (hb2).fz 3; have z4 := (hb2).fz 4
 clear hb2
 go_wp2_with fail
 refine (refused_c 63 _).mono ?_
 rintro e w2 ⟨rfl, hf2⟩
 have hb2 := HX.out.2.1.non (F4.out.2.then hf2)
 have hfw := F4.out.1.then hf2
 clear r0 r1 r2 r3 r4 z0 z1 z2 z3 z4
 obtain ⟨r0, r1, r2, r3, r4⟩ := (hb2).r
 have z0 := (hb2).fz 0; have z1 := (hb2).fz 1; have z2 := (hb2).fz 2; have z3 := (hb2).fz 3; have z4 := (hb2).fz 4
 have HE := zI (yI hb2.res hfw)
 unfold badV
 clear hf2 hb2 hfw
 generalize w2 = W2 at *
 go_wp2
 have hw9 := set5 HE.out.1 (.int .i64 63) (.string ⟨#[]⟩) (.string ⟨#[]⟩) (.int .i64 0) (.slice none 0 0)
 have hf9 := fp5 (S := Non) HE.out.2 (b := w.heap.size + 1) (.inr (by omega)) (.int .i64 63) (.string ⟨#[]⟩) (.string ⟨#[]⟩) (.int .i64 0) (.slice none 0 0)
 generalize (((((World.setCell W2 _ _).setCell _ _).setCell _ _).setCell _ _).setCell _ _) = w9 at *
 obtain ⟨s0, s1, s2, s3, s4⟩ := b5 hw9
 exact bodyPost_ret (v := .agg #[.int .i64 63, .string ⟨#[]⟩, .string ⟨#[]⟩, .int .i64 0, .slice none 0 0]) (by simp [results, Tryz.results155, go_sem, s0, s1, s2, s3, s4]) rfl (by rw [HC.out.1, HC.out.2]; exact MeR.still HX.out.1 (r := .bad 63) (nv := .slice none 0 0) hf9 (Own.nil _ _))
set_option maxHeartbeats 8000000 in
theorem existing_5 {lo b G cap : Nat} {l : List Nd} {w : World} (h : Tn lo b G cap l w) (hs : Sp l) (hl : l.length ≤ 512) (hlo : lo ≤ w.heap.size) (ha : Asc l) (p d : Bs) (v ow : Int) (t : Bool) (g : Nat) (fk : Nat) (hg : w.cell? ⟨g, 0, none⟩ = some (.func (.func fk) #[] #[])) (hen : Enters Tryz.prog fk)
  (hdo : Does lo b G cap l ⟨5, p, d, v, ow, t⟩ w fk) :
  Calls Tryz.prog 155 #[.pointer (some ⟨b, 0, none⟩), opV ⟨5, p, d, v, ow, t⟩, .pointer (some ⟨g, 0, none⟩)] w (MeR lo b G (perform l ⟨5, p, d, v, ow, t⟩).1 (perform l ⟨5, p, d, v, ow, t⟩).2 w) := by
 have hcr : perform l ⟨5, p, d, v, ow, t⟩ = (match find l p with
   | none => (l, .bad 62)
   | some x => if False ∧ v ≠ -1 ∧ v ≠ x.ver then (l, .bad 63) else doit l ⟨5, p, d, v, ow, t⟩ x) := by
  unfold perform; simp [versioned]
  try (cases find l p <;> rfl)
 obtain ⟨cr, hcr2⟩ : ∃ cr, perform l ⟨5, p, d, v, ow, t⟩ = cr := ⟨_, rfl⟩
 rw [hcr2] at hcr ⊢
 obtain ⟨l', r'⟩ := cr
 simp only
 unfold opV strV
 have hbx := Bx.made w 5 p d v ow t
 have hf0 : Fp Non w ((w.alloc (.cells #[.int .i64 5, .string (B p), .string (B d), .int .i64 v, .int .i64 ow, .bool t] TO_)).alloc (.cells #[.int .i64 0, .string ⟨#[]⟩, .string ⟨#[]⟩, .int .i64 0, .slice none 0 0] TR)) := ((Fp.refl Non w).alloc _).alloc _
 have op1 : (((w.alloc (.cells #[.int .i64 5, .string (B p), .string (B d), .int .i64 v, .int .i64 ow, .bool t] TO_)).alloc (.cells #[.int .i64 0, .string ⟨#[]⟩, .string ⟨#[]⟩, .int .i64 0, .slice none 0 0] TR))).cell? ⟨w.heap.size, 1, none⟩ = some (.string (B p)) := by rw [cell_of_row _ _ _ _ _ _ hbx.op]; rfl
 have hpc := place_c (h.non hf0) p ha (by omega)
 have HPC := zI hpc
 obtain ⟨n, hn⟩ : ∃ n, n = l.length := ⟨_, rfl⟩
 have HX := zI (yI h (yI hbx (yI hf0 (yI hn (yI hs (yI hl hlo))))))
 have HA := zI (yI ha (yI hg (yI hdo hcr)))
 clear hpc h hbx hf0 hn hs hl hlo ha hg hdo hcr hcr2
 go_enter Tryz.func155, Tryz.ntmps155
 generalize hW0 : ((w.alloc (.cells #[.int .i64 5, .string (B p), .string (B d), .int .i64 v, .int .i64 ow, .bool t] TO_)).alloc (.cells #[.int .i64 0, .string ⟨#[]⟩, .string ⟨#[]⟩, .int .i64 0, .slice none 0 0] TR)) = W0 at *
 go_wp2_with fail
 clear hW0
 refine HPC.out.mono ?_
 rintro e w2 ⟨rfl, hf2⟩
 have F2 := zI (yI (HX.out.2.2.1.then hf2) hf2)
 clear hf2 HPC op1
 cases hfu : find l p with
 | none =>
  have hcr := HA.out.2.2.2
  rw [hfu] at hcr
  have HC := zI (show l' = l ∧ r' = .bad 62 from by injection hcr with a b; exact ⟨a, b⟩)
  clear hcr hfu
  have hb2 := HX.out.2.1.non F2.out.2
  obtain ⟨r0, r1, r2, r3, r4⟩ := (hb2).r
  have z0 := (hb2).fz 0; have z1 := (hb2).fz 1; have z2 := (hb2).fz 2; have z3 := (hb2).fz 3; have z4 := (hb2).fz 4
  clear hb2
  go_wp2_with fail
  refine (refused_c 62 _).mono ?_
  rintro e w2 ⟨rfl, hf2⟩
  have hb2 := HX.out.2.1.non (F2.out.2.then hf2)
  have hfw := F2.out.1.then hf2
  clear r0 r1 r2 r3 r4 z0 z1 z2 z3 z4
  obtain ⟨r0, r1, r2, r3, r4⟩ := (hb2).r
  have z0 := (hb2).fz 0; have z1 := (hb2).fz 1; have z2 := (hb2).fz 2; have z3 := (hb2).fz 3; have z4 := (hb2).fz 4
  have HE := zI (yI hb2.res hfw)
  unfold badV
  clear hf2 hb2 hfw
  generalize w2 = W2 at *
  go_wp2
  have hw9 := set5 HE.out.1 (.int .i64 62) (.string ⟨#[]⟩) (.string ⟨#[]⟩) (.int .i64 0) (.slice none 0 0)
  have hf9 := fp5 (S := Non) HE.out.2 (b := w.heap.size + 1) (.inr (by omega)) (.int .i64 62) (.string ⟨#[]⟩) (.string ⟨#[]⟩) (.int .i64 0) (.slice none 0 0)
  generalize (((((World.setCell W2 _ _).setCell _ _).setCell _ _).setCell _ _).setCell _ _) = w9 at *
  obtain ⟨s0, s1, s2, s3, s4⟩ := b5 hw9
  exact bodyPost_ret (v := .agg #[.int .i64 62, .string ⟨#[]⟩, .string ⟨#[]⟩, .int .i64 0, .slice none 0 0]) (by simp [results, Tryz.results155, go_sem, s0, s1, s2, s3, s4]) rfl (by rw [HC.out.1, HC.out.2]; exact MeR.still HX.out.1 (r := .bad 62) (nv := .slice none 0 0) hf9 (Own.nil _ _))
 | some x => ?_
 obtain ⟨hat, hx⟩ := find_at HA.out.1 hfu
 have hT2 := HX.out.1.non F2.out.1
 have hnd := hT2.row.nd (place l p) hat
 rw [hx] at hnd
 have hcr := HA.out.2.2.2
 rw [hfu] at hcr
 simp only at hcr
 have HDO := zI (fun w' f => HA.out.2.2.1 x w' hfu f)
 obtain ⟨at_, hatE⟩ : ∃ at_, place l p = at_ := ⟨_, rfl⟩
 simp only [hatE] at hnd HDO ⊢
 rw [hatE] at hat
 have cb := hT2.c0
 rw [← HX.out.2.2.2.1] at cb
 have q1 : (at_ < n) = True := eq_true (by rw [HX.out.2.2.2.1]; exact hat)
 have q2 : ((at_ : Int) < (n : Int)) = True := eq_true (by rw [HX.out.2.2.2.1]; omega)
 have hbW := F2.out.2.heap HX.out.2.1.op id
 obtain ⟨o0, o1, o2, o3, o4, o5⟩ := box6 hbW
 have c2 := hnd.c2
 simp only [Nat.zero_add] at c2
 obtain ⟨xp, xd, xv, xt, xo⟩ := x
 simp only at c2 hcr
 have HHC := zI hcr
 have fat := fields_at5
 have fbt : bits BinOp.and IntKind.i64 0 4 = 0 := by kernel_rfl
 clear hT2 hnd hcr hat hfu hx hatE hbW o1 o2 o4 o5
 have HC : Hid ((l', r') = doit l ⟨5, p, d, v, ow, t⟩ ⟨xp, xd, xv, xt, xo⟩) := by have hcr := HHC.out; rw [if_neg (fun k => k.1)] at hcr; exact hcr
 clear HHC
 go_wp2_with fail
 refine wp_region_held_drew (S := (fun w' => w'.cell? ⟨w.heap.size, 0, none⟩ = some (.int .i64 5) ∧ w'.cell? ⟨w.heap.size, 3, none⟩ = some (.int .i64 v) ∧ w'.cell? ⟨b, 0, none⟩ = some (.slice (some ⟨G, 0, none⟩) n cap) ∧ w'.cell? ⟨G, at_ * 5 + 2, none⟩ = some (.int .i64 xv))) (by kernel_rfl) ?_ (fun hH => ?_)
 ·exact ⟨(Fp.refl Non _).drew.cell o0 id, (Fp.refl Non _).drew.cell o3 id, (Fp.refl Non _).drew.cell cb id, (Fp.refl Non _).drew.cell c2 id⟩
 have HSD := zI (fun w9 (hf : Fp Non w2.drew w9) => yI (hf.cell ((Fp.refl Non w2).drew.cell o0 id) id) (yI (hf.cell ((Fp.refl Non w2).drew.cell o3 id) id) (yI (hf.cell ((Fp.refl Non w2).drew.cell cb id) id) (hf.cell ((Fp.refl Non w2).drew.cell c2 id) id))))
 have F3 := zI (yI F2.out.1.drew F2.out.2.drew)
 clear o0 o3 cb c2
 generalize w2.drew = w3 at *
 refine tk 1 hH ?_
 refine tk 2 hH ?_
 refine rY 0 fun K hK => ?_
 go_simp
 go_at_call 79
 refine (fields_c _).mono ?_
 rintro e w4 ⟨rfl, hf4⟩
 have HS4 := zI (HSD.out w4 hf4)
 have F4 := zI (yI (F3.out.1.then hf4) (F3.out.2.then hf4))
 clear hf4 HSD F3
 go_wp2_with fail
 refine hK.out _ _ HS4.out (fun hH => ?_)
 clear hK K
 try simp only [zz]
 refine tk 3 hH ?_
 refine tk 4 hH ?_
 refine tk 5 hH ?_
 refine tk 6 hH ?_
 refine sk 7 hH ?_
 refine sk 8 hH ?_
 refine sk 9 hH ?_
 refine tk 10 hH ?_
 refine tk 11 hH ?_
 refine sk 12 hH ?_
 refine sk 13 hH ?_
 refine sk 14 hH ?_
 refine sk 15 hH ?_
 refine sk 16 hH ?_
 refine sk 17 hH ?_
 refine sk 18 hH ?_
 refine sk 19 hH ?_
 refine sk 20 hH ?_
 refine sk 21 hH ?_
 refine sk 22 hH ?_
 refine tk 23 hH ?_
 refine dn ?_
 clear hH
 have gc := F4.out.1.cell HA.out.2.1 id
 obtain ⟨o0, o1, o2, o3, o4, o5⟩ := box6 (F4.out.2.heap HX.out.2.1.op id)
 obtain ⟨re, rp, rd, rv, rn⟩ := r'
 have hdo := HDO.out _ F4.out.1
 rw [← HC.out] at hdo
 have HDC := zI hdo
 clear hdo HDO HC HS4 F2
 go_wp2_with fail
 rw [hen _ _]
 go_wp2_with fail
 refine HDC.out.mono ?_
 intro e w5 hM
 obtain ⟨nv, G', cap', rfl, ho, ht, hg⟩ := hM.ex
 have hfw := hM.fp
 have hnG : ∀ k, ownT b G k → k < w.heap.size := fun k hk => by
  rcases hk with hk | hk
  ·rw [hk]; exact HX.out.1.lt
  rw [hk]; exact HX.out.1.row.lt
 have hb5 := (HX.out.2.1.non F4.out.2).keep hfw (fun k hk => .inl (hnG k hk))
 have h4s : w.heap.size + 2 ≤ w4.heap.size := Nat.le_trans HX.out.2.1.sz F4.out.2.size
 have hf5 : Fp (ownT b G) w w5 := (F4.out.1.any (S := ownT b G)).same hfw
 have hnv := fun k e => (ho.1.lt k e).1
 have HNV := zI (show nv.ownBlock = some (w.heap.size + 1) → False from fun e => by have := hnv _ e; omega)
 have HGN := zI (yI (show b ≠ w.heap.size + 1 by have := hnG b (.inl rfl); omega) (show G' ≠ w.heap.size + 1 by
  rcases hg with e | e
  ·have := hnG G (.inr rfl); omega
  have : w4.heap.size ≤ G' := e; omega))
 have HG2 := zI (show G' = G ∨ w.heap.size ≤ G' by
  rcases hg with e | e
  ·exact .inl e
  exact .inr (by have : w4.heap.size ≤ G' := e; omega))
 have ho2 : Own w.heap.size w5 nv rn := ho.low F4.out.1.size
 obtain ⟨vao, vcap, hvs⟩ := ho2.shape
 have HE := zI (yI hb5.res (yI hf5 (yI ht ho2)))
 unfold strV
 obtain ⟨r0, r1, r2, r3, r4⟩ := (hb5).r
 have z0 := (hb5).fz 0; have z1 := (hb5).fz 1; have z2 := (hb5).fz 2; have z3 := (hb5).fz 3; have z4 := (hb5).fz 4
 clear hM hfw hnG hb5 h4s hf5 hnv hg ho ht ho2 HDC gc o0 o1 o2 o3 o4 o5
 subst hvs
 generalize w5 = W5 at *
 go_wp2
 have hT9 := HE.out.2.2.1.keep (fp5 (S := fun k => k = w.heap.size + 1) (Fp.refl _ W5) (b := w.heap.size + 1) (.inl rfl) (.int .i64 re) (.string (B rp)) (.string (B rd)) (.int .i64 rv) (.slice vao rn.length vcap)) (fun e => HGN.out.1 e) (fun e => HGN.out.2 e)
 have HO9 := own5 HE.out.2.2.2 (b := w.heap.size + 1) (fun e => HNV.out e) (.int .i64 re) (.string (B rp)) (.string (B rd)) (.int .i64 rv) (.slice vao rn.length vcap)
 have hw9 := set5 HE.out.1 (.int .i64 re) (.string (B rp)) (.string (B rd)) (.int .i64 rv) (.slice vao rn.length vcap)
 have hf9 := fp5 (S := ownT b G) HE.out.2.1 (b := w.heap.size + 1) (.inr (by omega)) (.int .i64 re) (.string (B rp)) (.string (B rd)) (.int .i64 rv) (.slice vao rn.length vcap)
 generalize (((((World.setCell W5 _ _).setCell _ _).setCell _ _).setCell _ _).setCell _ _) = w9 at *
 obtain ⟨s0, s1, s2, s3, s4⟩ := b5 hw9
 exact bodyPost_ret (v := .agg #[.int .i64 re, .string (B rp), .string (B rd), .int .i64 rv, .slice vao rn.length vcap]) (by simp [results, Tryz.results155, go_sem, s0, s1, s2, s3, s4]) rfl (MeR.of (r := ⟨re, rp, rd, rv, rn⟩) (nv := .slice vao rn.length vcap) hT9 HG2.out hf9 HO9)
set_option maxHeartbeats 8000000 in
theorem existing_6 {lo b G cap : Nat} {l : List Nd} {w : World} (h : Tn lo b G cap l w) (hs : Sp l) (hl : l.length ≤ 512) (hlo : lo ≤ w.heap.size) (ha : Asc l) (p d : Bs) (v ow : Int) (t : Bool) (g : Nat) (fk : Nat) (hg : w.cell? ⟨g, 0, none⟩ = some (.func (.func fk) #[] #[])) (hen : Enters Tryz.prog fk)
  (hdo : Does lo b G cap l ⟨6, p, d, v, ow, t⟩ w fk) :
  Calls Tryz.prog 155 #[.pointer (some ⟨b, 0, none⟩), opV ⟨6, p, d, v, ow, t⟩, .pointer (some ⟨g, 0, none⟩)] w (MeR lo b G (perform l ⟨6, p, d, v, ow, t⟩).1 (perform l ⟨6, p, d, v, ow, t⟩).2 w) := by
 have hcr : perform l ⟨6, p, d, v, ow, t⟩ = (match find l p with
   | none => (l, .bad 62)
   | some x => if False ∧ v ≠ -1 ∧ v ≠ x.ver then (l, .bad 63) else doit l ⟨6, p, d, v, ow, t⟩ x) := by
  unfold perform; simp [versioned]
  try (cases find l p <;> rfl)
 obtain ⟨cr, hcr2⟩ : ∃ cr, perform l ⟨6, p, d, v, ow, t⟩ = cr := ⟨_, rfl⟩
 rw [hcr2] at hcr ⊢
 obtain ⟨l', r'⟩ := cr
 simp only
 unfold opV strV
 have hbx := Bx.made w 6 p d v ow t
 have hf0 : Fp Non w ((w.alloc (.cells #[.int .i64 6, .string (B p), .string (B d), .int .i64 v, .int .i64 ow, .bool t] TO_)).alloc (.cells #[.int .i64 0, .string ⟨#[]⟩, .string ⟨#[]⟩, .int .i64 0, .slice none 0 0] TR)) := ((Fp.refl Non w).alloc _).alloc _
 have op1 : (((w.alloc (.cells #[.int .i64 6, .string (B p), .string (B d), .int .i64 v, .int .i64 ow, .bool t] TO_)).alloc (.cells #[.int .i64 0, .string ⟨#[]⟩, .string ⟨#[]⟩, .int .i64 0, .slice none 0 0] TR))).cell? ⟨w.heap.size, 1, none⟩ = some (.string (B p)) := by rw [cell_of_row _ _ _ _ _ _ hbx.op]; rfl
 have hpc := place_c (h.non hf0) p ha (by omega)
 have HPC := zI hpc
 obtain ⟨n, hn⟩ : ∃ n, n = l.length := ⟨_, rfl⟩
 have HX := zI (yI h (yI hbx (yI hf0 (yI hn (yI hs (yI hl hlo))))))
 have HA := zI (yI ha (yI hg (yI hdo hcr)))
 clear hpc h hbx hf0 hn hs hl hlo ha hg hdo hcr hcr2
 go_enter Tryz.func155, Tryz.ntmps155
 generalize hW0 : ((w.alloc (.cells #[.int .i64 6, .string (B p), .string (B d), .int .i64 v, .int .i64 ow, .bool t] TO_)).alloc (.cells #[.int .i64 0, .string ⟨#[]⟩, .string ⟨#[]⟩, .int .i64 0, .slice none 0 0] TR)) = W0 at *
 go_wp2_with fail
 clear hW0
 refine HPC.out.mono ?_
 rintro e w2 ⟨rfl, hf2⟩
 have F2 := zI (yI (HX.out.2.2.1.then hf2) hf2)
 clear hf2 HPC op1
 cases hfu : find l p with
 | none =>
  have hcr := HA.out.2.2.2
  rw [hfu] at hcr
  have HC := zI (show l' = l ∧ r' = .bad 62 from by injection hcr with a b; exact ⟨a, b⟩)
  clear hcr hfu
  have hb2 := HX.out.2.1.non F2.out.2
  obtain ⟨r0, r1, r2, r3, r4⟩ := (hb2).r
  have z0 := (hb2).fz 0; have z1 := (hb2).fz 1; have z2 := (hb2).fz 2; have z3 := (hb2).fz 3; have z4 := (hb2).fz 4
  clear hb2
  go_wp2_with fail
  refine (refused_c 62 _).mono ?_
  rintro e w2 ⟨rfl, hf2⟩
  have hb2 := HX.out.2.1.non (F2.out.2.then hf2)
  have hfw := F2.out.1.then hf2
  clear r0 r1 r2 r3 r4 z0 z1 z2 z3 z4
  obtain ⟨r0, r1, r2, r3, r4⟩ := (hb2).r
  have z0 := (hb2).fz 0; have z1 := (hb2).fz 1; have z2 := (hb2).fz 2; have z3 := (hb2).fz 3; have z4 := (hb2).fz 4
  have HE := zI (yI hb2.res hfw)
  unfold badV
  clear hf2 hb2 hfw
  generalize w2 = W2 at *
  go_wp2
  have hw9 := set5 HE.out.1 (.int .i64 62) (.string ⟨#[]⟩) (.string ⟨#[]⟩) (.int .i64 0) (.slice none 0 0)
  have hf9 := fp5 (S := Non) HE.out.2 (b := w.heap.size + 1) (.inr (by omega)) (.int .i64 62) (.string ⟨#[]⟩) (.string ⟨#[]⟩) (.int .i64 0) (.slice none 0 0)
  generalize (((((World.setCell W2 _ _).setCell _ _).setCell _ _).setCell _ _).setCell _ _) = w9 at *
  obtain ⟨s0, s1, s2, s3, s4⟩ := b5 hw9
  exact bodyPost_ret (v := .agg #[.int .i64 62, .string ⟨#[]⟩, .string ⟨#[]⟩, .int .i64 0, .slice none 0 0]) (by simp [results, Tryz.results155, go_sem, s0, s1, s2, s3, s4]) rfl (by rw [HC.out.1, HC.out.2]; exact MeR.still HX.out.1 (r := .bad 62) (nv := .slice none 0 0) hf9 (Own.nil _ _))
 | some x => ?_
 obtain ⟨hat, hx⟩ := find_at HA.out.1 hfu
 have hT2 := HX.out.1.non F2.out.1
 have hnd := hT2.row.nd (place l p) hat
 rw [hx] at hnd
 have hcr := HA.out.2.2.2
 rw [hfu] at hcr
 simp only at hcr
 have HDO := zI (fun w' f => HA.out.2.2.1 x w' hfu f)
 obtain ⟨at_, hatE⟩ : ∃ at_, place l p = at_ := ⟨_, rfl⟩
 simp only [hatE] at hnd HDO ⊢
 rw [hatE] at hat
 have cb := hT2.c0
 rw [← HX.out.2.2.2.1] at cb
 have q1 : (at_ < n) = True := eq_true (by rw [HX.out.2.2.2.1]; exact hat)
 have q2 : ((at_ : Int) < (n : Int)) = True := eq_true (by rw [HX.out.2.2.2.1]; omega)
 have hbW := F2.out.2.heap HX.out.2.1.op id
 obtain ⟨o0, o1, o2, o3, o4, o5⟩ := box6 hbW
 have c2 := hnd.c2
 simp only [Nat.zero_add] at c2
 obtain ⟨xp, xd, xv, xt, xo⟩ := x
 simp only at c2 hcr
 have HHC := zI hcr
 have fat := fields_at6
 have fbt : bits BinOp.and IntKind.i64 0 4 = 0 := by kernel_rfl
 clear hT2 hnd hcr hat hfu hx hatE hbW o1 o2 o4 o5
 have HC : Hid ((l', r') = doit l ⟨6, p, d, v, ow, t⟩ ⟨xp, xd, xv, xt, xo⟩) := by have hcr := HHC.out; rw [if_neg (fun k => k.1)] at hcr; exact hcr
 clear HHC
 go_wp2_with fail
 refine wp_region_held_drew (S := (fun w' => w'.cell? ⟨w.heap.size, 0, none⟩ = some (.int .i64 6) ∧ w'.cell? ⟨w.heap.size, 3, none⟩ = some (.int .i64 v) ∧ w'.cell? ⟨b, 0, none⟩ = some (.slice (some ⟨G, 0, none⟩) n cap) ∧ w'.cell? ⟨G, at_ * 5 + 2, none⟩ = some (.int .i64 xv))) (by kernel_rfl) ?_ (fun hH => ?_)
 ·exact ⟨(Fp.refl Non _).drew.cell o0 id, (Fp.refl Non _).drew.cell o3 id, (Fp.refl Non _).drew.cell cb id, (Fp.refl Non _).drew.cell c2 id⟩
 have HSD := zI (fun w9 (hf : Fp Non w2.drew w9) => yI (hf.cell ((Fp.refl Non w2).drew.cell o0 id) id) (yI (hf.cell ((Fp.refl Non w2).drew.cell o3 id) id) (yI (hf.cell ((Fp.refl Non w2).drew.cell cb id) id) (hf.cell ((Fp.refl Non w2).drew.cell c2 id) id))))
 have F3 := zI (yI F2.out.1.drew F2.out.2.drew)
 clear o0 o3 cb c2
 generalize w2.drew = w3 at *
 refine tk 1 hH ?_
 refine tk 2 hH ?_
 refine rY 0 fun K hK => ?_
 go_simp
 go_at_call 79
 refine (fields_c _).mono ?_
 rintro e w4 ⟨rfl, hf4⟩
 have HS4 := zI (HSD.out w4 hf4)
 have F4 := zI (yI (F3.out.1.then hf4) (F3.out.2.then hf4))
 clear hf4 HSD F3
 go_wp2_with fail
 refine hK.out _ _ HS4.out (fun hH => ?_)
 clear hK K
 try simp only [zz]
 refine tk 3 hH ?_
 refine tk 4 hH ?_
 refine tk 5 hH ?_
 refine tk 6 hH ?_
 refine sk 7 hH ?_
 refine sk 8 hH ?_
 refine sk 9 hH ?_
 refine tk 10 hH ?_
 refine tk 11 hH ?_
 refine sk 12 hH ?_
 refine sk 13 hH ?_
 refine sk 14 hH ?_
 refine sk 15 hH ?_
 refine sk 16 hH ?_
 refine sk 17 hH ?_
 refine sk 18 hH ?_
 refine sk 19 hH ?_
 refine sk 20 hH ?_
 refine sk 21 hH ?_
 refine sk 22 hH ?_
 refine tk 23 hH ?_
 refine dn ?_
 clear hH
 have gc := F4.out.1.cell HA.out.2.1 id
 obtain ⟨o0, o1, o2, o3, o4, o5⟩ := box6 (F4.out.2.heap HX.out.2.1.op id)
 obtain ⟨re, rp, rd, rv, rn⟩ := r'
 have hdo := HDO.out _ F4.out.1
 rw [← HC.out] at hdo
 have HDC := zI hdo
 clear hdo HDO HC HS4 F2
 go_wp2_with fail
 rw [hen _ _]
 go_wp2_with fail
 refine HDC.out.mono ?_
 intro e w5 hM
 obtain ⟨nv, G', cap', rfl, ho, ht, hg⟩ := hM.ex
 have hfw := hM.fp
 have hnG : ∀ k, ownT b G k → k < w.heap.size := fun k hk => by
  rcases hk with hk | hk
  ·rw [hk]; exact HX.out.1.lt
  rw [hk]; exact HX.out.1.row.lt
 have hb5 := (HX.out.2.1.non F4.out.2).keep hfw (fun k hk => .inl (hnG k hk))
 have h4s : w.heap.size + 2 ≤ w4.heap.size := Nat.le_trans HX.out.2.1.sz F4.out.2.size
 have hf5 : Fp (ownT b G) w w5 := (F4.out.1.any (S := ownT b G)).same hfw
 have hnv := fun k e => (ho.1.lt k e).1
 have HNV := zI (show nv.ownBlock = some (w.heap.size + 1) → False from fun e => by have := hnv _ e; omega)
 have HGN := zI (yI (show b ≠ w.heap.size + 1 by have := hnG b (.inl rfl); omega) (show G' ≠ w.heap.size + 1 by
  rcases hg with e | e
  ·have := hnG G (.inr rfl); omega
  have : w4.heap.size ≤ G' := e; omega))
 have HG2 := zI (show G' = G ∨ w.heap.size ≤ G' by
  rcases hg with e | e
  ·exact .inl e
  exact .inr (by have : w4.heap.size ≤ G' := e; omega))
 have ho2 : Own w.heap.size w5 nv rn := ho.low F4.out.1.size
 obtain ⟨vao, vcap, hvs⟩ := ho2.shape
 have HE := zI (yI hb5.res (yI hf5 (yI ht ho2)))
 unfold strV
 obtain ⟨r0, r1, r2, r3, r4⟩ := (hb5).r
 have z0 := (hb5).fz 0; have z1 := (hb5).fz 1; have z2 := (hb5).fz 2; have z3 := (hb5).fz 3; have z4 := (hb5).fz 4
 clear hM hfw hnG hb5 h4s hf5 hnv hg ho ht ho2 HDC gc o0 o1 o2 o3 o4 o5
 subst hvs
 generalize w5 = W5 at *
 go_wp2
 have hT9 := HE.out.2.2.1.keep (fp5 (S := fun k => k = w.heap.size + 1) (Fp.refl _ W5) (b := w.heap.size + 1) (.inl rfl) (.int .i64 re) (.string (B rp)) (.string (B rd)) (.int .i64 rv) (.slice vao rn.length vcap)) (fun e => HGN.out.1 e) (fun e => HGN.out.2 e)
 have HO9 := own5 HE.out.2.2.2 (b := w.heap.size + 1) (fun e => HNV.out e) (.int .i64 re) (.string (B rp)) (.string (B rd)) (.int .i64 rv) (.slice vao rn.length vcap)
 have hw9 := set5 HE.out.1 (.int .i64 re) (.string (B rp)) (.string (B rd)) (.int .i64 rv) (.slice vao rn.length vcap)
 have hf9 := fp5 (S := ownT b G) HE.out.2.1 (b := w.heap.size + 1) (.inr (by omega)) (.int .i64 re) (.string (B rp)) (.string (B rd)) (.int .i64 rv) (.slice vao rn.length vcap)
 generalize (((((World.setCell W5 _ _).setCell _ _).setCell _ _).setCell _ _).setCell _ _) = w9 at *
 obtain ⟨s0, s1, s2, s3, s4⟩ := b5 hw9
 exact bodyPost_ret (v := .agg #[.int .i64 re, .string (B rp), .string (B rd), .int .i64 rv, .slice vao rn.length vcap]) (by simp [results, Tryz.results155, go_sem, s0, s1, s2, s3, s4]) rfl (MeR.of (r := ⟨re, rp, rd, rv, rn⟩) (nv := .slice vao rn.length vcap) hT9 HG2.out hf9 HO9)
set_option maxHeartbeats 8000000 in
theorem existing_7 {lo b G cap : Nat} {l : List Nd} {w : World} (h : Tn lo b G cap l w) (hs : Sp l) (hl : l.length ≤ 512) (hlo : lo ≤ w.heap.size) (ha : Asc l) (p d : Bs) (v ow : Int) (t : Bool) (g : Nat) (fk : Nat) (hg : w.cell? ⟨g, 0, none⟩ = some (.func (.func fk) #[] #[])) (hen : Enters Tryz.prog fk)
  (hdo : Does lo b G cap l ⟨7, p, d, v, ow, t⟩ w fk) :
  Calls Tryz.prog 155 #[.pointer (some ⟨b, 0, none⟩), opV ⟨7, p, d, v, ow, t⟩, .pointer (some ⟨g, 0, none⟩)] w (MeR lo b G (perform l ⟨7, p, d, v, ow, t⟩).1 (perform l ⟨7, p, d, v, ow, t⟩).2 w) := by
 have hcr : perform l ⟨7, p, d, v, ow, t⟩ = (match find l p with
   | none => (l, .bad 62)
   | some x => if False ∧ v ≠ -1 ∧ v ≠ x.ver then (l, .bad 63) else doit l ⟨7, p, d, v, ow, t⟩ x) := by
  unfold perform; simp [versioned]
  try (cases find l p <;> rfl)
 obtain ⟨cr, hcr2⟩ : ∃ cr, perform l ⟨7, p, d, v, ow, t⟩ = cr := ⟨_, rfl⟩
 rw [hcr2] at hcr ⊢
 obtain ⟨l', r'⟩ := cr
 simp only
 unfold opV strV
 have hbx := Bx.made w 7 p d v ow t
 have hf0 : Fp Non w ((w.alloc (.cells #[.int .i64 7, .string (B p), .string (B d), .int .i64 v, .int .i64 ow, .bool t] TO_)).alloc (.cells #[.int .i64 0, .string ⟨#[]⟩, .string ⟨#[]⟩, .int .i64 0, .slice none 0 0] TR)) := ((Fp.refl Non w).alloc _).alloc _
 have op1 : (((w.alloc (.cells #[.int .i64 7, .string (B p), .string (B d), .int .i64 v, .int .i64 ow, .bool t] TO_)).alloc (.cells #[.int .i64 0, .string ⟨#[]⟩, .string ⟨#[]⟩, .int .i64 0, .slice none 0 0] TR))).cell? ⟨w.heap.size, 1, none⟩ = some (.string (B p)) := by rw [cell_of_row _ _ _ _ _ _ hbx.op]; rfl
 have hpc := place_c (h.non hf0) p ha (by omega)
 have HPC := zI hpc
 obtain ⟨n, hn⟩ : ∃ n, n = l.length := ⟨_, rfl⟩
 have HX := zI (yI h (yI hbx (yI hf0 (yI hn (yI hs (yI hl hlo))))))
 have HA := zI (yI ha (yI hg (yI hdo hcr)))
 clear hpc h hbx hf0 hn hs hl hlo ha hg hdo hcr hcr2
 go_enter Tryz.func155, Tryz.ntmps155
 generalize hW0 : ((w.alloc (.cells #[.int .i64 7, .string (B p), .string (B d), .int .i64 v, .int .i64 ow, .bool t] TO_)).alloc (.cells #[.int .i64 0, .string ⟨#[]⟩, .string ⟨#[]⟩, .int .i64 0, .slice none 0 0] TR)) = W0 at *
 go_wp2_with fail
 clear hW0
 refine HPC.out.mono ?_
 rintro e w2 ⟨rfl, hf2⟩
 have F2 := zI (yI (HX.out.2.2.1.then hf2) hf2)
 clear hf2 HPC op1
 cases hfu : find l p with
 | none =>
  have hcr := HA.out.2.2.2
  rw [hfu] at hcr
  have HC := zI (show l' = l ∧ r' = .bad 62 from by injection hcr with a b; exact ⟨a, b⟩)
  clear hcr hfu
  have hb2 := HX.out.2.1.non F2.out.2
  obtain ⟨r0, r1, r2, r3, r4⟩ := (hb2).r
  have z0 := (hb2).fz 0; have z1 := (hb2).fz 1; have z2 := (hb2).fz 2; have z3 := (hb2).fz 3; have z4 := (hb2).fz 4
  clear hb2
  go_wp2_with fail
  refine (refused_c 62 _).mono ?_
  rintro e w2 ⟨rfl, hf2⟩
  have hb2 := HX.out.2.1.non (F2.out.2.then hf2)
  have hfw := F2.out.1.then hf2
  clear r0 r1 r2 r3 r4 z0 z1 z2 z3 z4
  obtain ⟨r0, r1, r2, r3, r4⟩ := (hb2).r
  have z0 := (hb2).fz 0; have z1 := (hb2).fz 1; have z2 := (hb2).fz 2; have z3 := (hb2).fz 3; have z4 := (hb2).fz 4
  have HE := zI (yI hb2.res hfw)
  unfold badV
  clear hf2 hb2 hfw
  generalize w2 = W2 at *
  go_wp2
  have hw9 := set5 HE.out.1 (.int .i64 62) (.string ⟨#[]⟩) (.string ⟨#[]⟩) (.int .i64 0) (.slice none 0 0)
  have hf9 := fp5 (S := Non) HE.out.2 (b := w.heap.size + 1) (.inr (by omega)) (.int .i64 62) (.string ⟨#[]⟩) (.string ⟨#[]⟩) (.int .i64 0) (.slice none 0 0)
  generalize (((((World.setCell W2 _ _).setCell _ _).setCell _ _).setCell _ _).setCell _ _) = w9 at *
  obtain ⟨s0, s1, s2, s3, s4⟩ := b5 hw9
  exact bodyPost_ret (v := .agg #[.int .i64 62, .string ⟨#[]⟩, .string ⟨#[]⟩, .int .i64 0, .slice none 0 0]) (by simp [results, Tryz.results155, go_sem, s0, s1, s2, s3, s4]) rfl (by rw [HC.out.1, HC.out.2]; exact MeR.still HX.out.1 (r := .bad 62) (nv := .slice none 0 0) hf9 (Own.nil _ _))
 | some x => ?_
 obtain ⟨hat, hx⟩ := find_at HA.out.1 hfu
 have hT2 := HX.out.1.non F2.out.1
 have hnd := hT2.row.nd (place l p) hat
 rw [hx] at hnd
 have hcr := HA.out.2.2.2
 rw [hfu] at hcr
 simp only at hcr
 have HDO := zI (fun w' f => HA.out.2.2.1 x w' hfu f)
 obtain ⟨at_, hatE⟩ : ∃ at_, place l p = at_ := ⟨_, rfl⟩
 simp only [hatE] at hnd HDO ⊢
 rw [hatE] at hat
 have cb := hT2.c0
 rw [← HX.out.2.2.2.1] at cb
 have q1 : (at_ < n) = True := eq_true (by rw [HX.out.2.2.2.1]; exact hat)
 have q2 : ((at_ : Int) < (n : Int)) = True := eq_true (by rw [HX.out.2.2.2.1]; omega)
 have hbW := F2.out.2.heap HX.out.2.1.op id
 obtain ⟨o0, o1, o2, o3, o4, o5⟩ := box6 hbW
 have c2 := hnd.c2
 simp only [Nat.zero_add] at c2
 obtain ⟨xp, xd, xv, xt, xo⟩ := x
 simp only at c2 hcr
 have HHC := zI hcr
 have fat := fields_at7
 have fbt : bits BinOp.and IntKind.i64 24 4 = 0 := by kernel_rfl
 clear hT2 hnd hcr hat hfu hx hatE hbW o1 o2 o4 o5
 have HC : Hid ((l', r') = doit l ⟨7, p, d, v, ow, t⟩ ⟨xp, xd, xv, xt, xo⟩) := by have hcr := HHC.out; rw [if_neg (fun k => k.1)] at hcr; exact hcr
 clear HHC
 go_wp2_with fail
 refine wp_region_held_drew (S := (fun w' => w'.cell? ⟨w.heap.size, 0, none⟩ = some (.int .i64 7) ∧ w'.cell? ⟨w.heap.size, 3, none⟩ = some (.int .i64 v) ∧ w'.cell? ⟨b, 0, none⟩ = some (.slice (some ⟨G, 0, none⟩) n cap) ∧ w'.cell? ⟨G, at_ * 5 + 2, none⟩ = some (.int .i64 xv))) (by kernel_rfl) ?_ (fun hH => ?_)
 ·exact ⟨(Fp.refl Non _).drew.cell o0 id, (Fp.refl Non _).drew.cell o3 id, (Fp.refl Non _).drew.cell cb id, (Fp.refl Non _).drew.cell c2 id⟩
 have HSD := zI (fun w9 (hf : Fp Non w2.drew w9) => yI (hf.cell ((Fp.refl Non w2).drew.cell o0 id) id) (yI (hf.cell ((Fp.refl Non w2).drew.cell o3 id) id) (yI (hf.cell ((Fp.refl Non w2).drew.cell cb id) id) (hf.cell ((Fp.refl Non w2).drew.cell c2 id) id))))
 have F3 := zI (yI F2.out.1.drew F2.out.2.drew)
 clear o0 o3 cb c2
 generalize w2.drew = w3 at *
 refine tk 1 hH ?_
 refine tk 2 hH ?_
 refine rY 0 fun K hK => ?_
 go_simp
 go_at_call 79
 refine (fields_c _).mono ?_
 rintro e w4 ⟨rfl, hf4⟩
 have HS4 := zI (HSD.out w4 hf4)
 have F4 := zI (yI (F3.out.1.then hf4) (F3.out.2.then hf4))
 clear hf4 HSD F3
 go_wp2_with fail
 refine hK.out _ _ HS4.out (fun hH => ?_)
 clear hK K
 try simp only [zz]
 refine tk 3 hH ?_
 refine tk 4 hH ?_
 refine tk 5 hH ?_
 refine tk 6 hH ?_
 refine sk 7 hH ?_
 refine sk 8 hH ?_
 refine sk 9 hH ?_
 refine tk 10 hH ?_
 refine tk 11 hH ?_
 refine sk 12 hH ?_
 refine sk 13 hH ?_
 refine sk 14 hH ?_
 refine sk 15 hH ?_
 refine sk 16 hH ?_
 refine sk 17 hH ?_
 refine sk 18 hH ?_
 refine sk 19 hH ?_
 refine sk 20 hH ?_
 refine sk 21 hH ?_
 refine sk 22 hH ?_
 refine tk 23 hH ?_
 refine dn ?_
 clear hH
 have gc := F4.out.1.cell HA.out.2.1 id
 obtain ⟨o0, o1, o2, o3, o4, o5⟩ := box6 (F4.out.2.heap HX.out.2.1.op id)
 obtain ⟨re, rp, rd, rv, rn⟩ := r'
 have hdo := HDO.out _ F4.out.1
 rw [← HC.out] at hdo
 have HDC := zI hdo
 clear hdo HDO HC HS4 F2
 go_wp2_with fail
 rw [hen _ _]
 go_wp2_with fail
 refine HDC.out.mono ?_
 intro e w5 hM
 obtain ⟨nv, G', cap', rfl, ho, ht, hg⟩ := hM.ex
 have hfw := hM.fp
 have hnG : ∀ k, ownT b G k → k < w.heap.size := fun k hk => by
  rcases hk with hk | hk
  ·rw [hk]; exact HX.out.1.lt
  rw [hk]; exact HX.out.1.row.lt
 have hb5 := (HX.out.2.1.non F4.out.2).keep hfw (fun k hk => .inl (hnG k hk))
 have h4s : w.heap.size + 2 ≤ w4.heap.size := Nat.le_trans HX.out.2.1.sz F4.out.2.size
 have hf5 : Fp (ownT b G) w w5 := (F4.out.1.any (S := ownT b G)).same hfw
 have hnv := fun k e => (ho.1.lt k e).1
 have HNV := zI (show nv.ownBlock = some (w.heap.size + 1) → False from fun e => by have := hnv _ e; omega)
 have HGN := zI (yI (show b ≠ w.heap.size + 1 by have := hnG b (.inl rfl); omega) (show G' ≠ w.heap.size + 1 by
  rcases hg with e | e
  ·have := hnG G (.inr rfl); omega
  have : w4.heap.size ≤ G' := e; omega))
 have HG2 := zI (show G' = G ∨ w.heap.size ≤ G' by
  rcases hg with e | e
  ·exact .inl e
  exact .inr (by have : w4.heap.size ≤ G' := e; omega))
 have ho2 : Own w.heap.size w5 nv rn := ho.low F4.out.1.size
 obtain ⟨vao, vcap, hvs⟩ := ho2.shape
 have HE := zI (yI hb5.res (yI hf5 (yI ht ho2)))
 unfold strV
 obtain ⟨r0, r1, r2, r3, r4⟩ := (hb5).r
 have z0 := (hb5).fz 0; have z1 := (hb5).fz 1; have z2 := (hb5).fz 2; have z3 := (hb5).fz 3; have z4 := (hb5).fz 4
 clear hM hfw hnG hb5 h4s hf5 hnv hg ho ht ho2 HDC gc o0 o1 o2 o3 o4 o5
 subst hvs
 generalize w5 = W5 at *
 go_wp2
 have hT9 := HE.out.2.2.1.keep (fp5 (S := fun k => k = w.heap.size + 1) (Fp.refl _ W5) (b := w.heap.size + 1) (.inl rfl) (.int .i64 re) (.string (B rp)) (.string (B rd)) (.int .i64 rv) (.slice vao rn.length vcap)) (fun e => HGN.out.1 e) (fun e => HGN.out.2 e)
 have HO9 := own5 HE.out.2.2.2 (b := w.heap.size + 1) (fun e => HNV.out e) (.int .i64 re) (.string (B rp)) (.string (B rd)) (.int .i64 rv) (.slice vao rn.length vcap)
 have hw9 := set5 HE.out.1 (.int .i64 re) (.string (B rp)) (.string (B rd)) (.int .i64 rv) (.slice vao rn.length vcap)
 have hf9 := fp5 (S := ownT b G) HE.out.2.1 (b := w.heap.size + 1) (.inr (by omega)) (.int .i64 re) (.string (B rp)) (.string (B rd)) (.int .i64 rv) (.slice vao rn.length vcap)
 generalize (((((World.setCell W5 _ _).setCell _ _).setCell _ _).setCell _ _).setCell _ _) = w9 at *
 obtain ⟨s0, s1, s2, s3, s4⟩ := b5 hw9
 exact bodyPost_ret (v := .agg #[.int .i64 re, .string (B rp), .string (B rd), .int .i64 rv, .slice vao rn.length vcap]) (by simp [results, Tryz.results155, go_sem, s0, s1, s2, s3, s4]) rfl (MeR.of (r := ⟨re, rp, rd, rv, rn⟩) (nv := .slice vao rn.length vcap) hT9 HG2.out hf9 HO9)
end Go.Proofs.YtphoglepiegeiaaGreatDoor
