/- A text of this proof. -/
import Derived.Test.YtphoglepiegeiaaGreatDoorZCC
import Derived.Test.YtphoglepiegeiaaGreatDoorZCE
import Derived.Test.YtphoglepiegeiaaGreatDoorZCK
set_option linter.unusedSimpArgs false
set_option linter.unusedVariables false
namespace Go.Proofs.YtphoglepiegeiaaGreatDoor
set_option maxRecDepth 20000
open Go.RowKit Pm
theorem may_len {o : Opn} (hm : may o = true) : o.path.length ≤ 1000000 := by
 have := may_split hm
 obtain ⟨ps, hps⟩ := Option.isSome_iff_exists.1 this
 obtain ⟨hP, e⟩ := (split_iff _ _).1 hps
 have := joinP_len hP
 rw [e] at this
 exact Nat.le_trans this (by omega)
theorem zero_row (w : World) : (w.alloc (.cells #[.int .i64 0, .string ⟨#[]⟩, .string ⟨#[]⟩, .int .i64 0, .slice none 0 0] TR)).heap[w.heap.size]? = some (.cells #[.int .i64 0, .string ⟨#[]⟩, .string ⟨#[]⟩, .int .i64 0, .slice none 0 0] TR (0, 0)) := heap_alloc_new w _
set_option maxHeartbeats 8000000 in
theorem Apply_go (v : Value) (l : List Nd) (kk : Int) (p d : Bs) (vv ow : Int) (t : Bool) (w : World) (hv : Ns w v l) (hs : Sp l) (hr : right l = true) (hm : may ⟨kk, p, d, vv, ow, t⟩ = true) (ht : Tab w) :
  Calls Tryz.prog 52 #[v, opV ⟨kk, p, d, vv, ow, t⟩] w (ApS w v (perform l ⟨kk, p, d, vv, ow, t⟩).1 (perform l ⟨kk, p, d, vv, ow, t⟩).2) := by
 have htr := (right_iff l).1 hr
 have hpl := may_len hm
 have hrc := fun w1 (f : Fp Non w w1) => nRight_c v l w1 (hv.non f) hs
 rw [hr] at hrc
 have hmc := fun w1 => May_c ⟨kk, p, d, vv, ow, t⟩ w1 hpl
 rw [hm] at hmc
 have hcl := fun w1 (f : Fp Non w w1) => Clone_c v l w1 (hv.non f) htr.pos (by have := htr.most; omega)
 have hpk := fun lo b G cap g2 g3 g4 g5 g6 g7 => pick_fn lo b G cap l ⟨kk, p, d, vv, ow, t⟩ g2 g3 g4 g5 g6 g7 hm
 have herr := perform_err htr.tr hm
 obtain ⟨ao, cap, rfl⟩ := hv.shape
 obtain ⟨cr, hcr⟩ : ∃ cr, perform l ⟨kk, p, d, vv, ow, t⟩ = cr := ⟨_, rfl⟩
 rw [hcr] at herr ⊢
 obtain ⟨l', ⟨re, rp, rd, rv, rn⟩⟩ := cr
 simp only at herr ⊢
 obtain ⟨n, hn⟩ : ∃ n, n = l.length := ⟨_, rfl⟩
 rw [← hn] at hrc hv hcl ⊢
 unfold opV strV at hmc ⊢
 simp only at hmc ⊢
 have hbx := Bx.made w kk p d vv ow t
 have hf0 : Fp Non w ((w.alloc (.cells #[.int .i64 kk, .string (B p), .string (B d), .int .i64 vv, .int .i64 ow, .bool t] TO_)).alloc (.cells #[.int .i64 0, .string ⟨#[]⟩, .string ⟨#[]⟩, .int .i64 0, .slice none 0 0] TR)) := ((Fp.refl Non w).alloc _).alloc _
 have HX := zI (yI hbx (yI hf0 (yI hn (yI hs (yI htr (yI hm ht))))))
 have HA := zI (yI hrc (yI hmc hcl))
 have HV := zI (yI hv (yI hcr (yI hpk herr.2)))
 clear hbx hf0 hn hs htr hm ht hrc hmc hcl hv hcr hpl hr hpk herr
 go_enter Tryz.func52, Tryz.ntmps52
 generalize hW0 : ((w.alloc (.cells #[.int .i64 kk, .string (B p), .string (B d), .int .i64 vv, .int .i64 ow, .bool t] TO_)).alloc (.cells #[.int .i64 0, .string ⟨#[]⟩, .string ⟨#[]⟩, .int .i64 0, .slice none 0 0] TR)) = W0 at *
 go_wp2_with fail
 clear hW0
 refine (HA.out.1 _ HX.out.2.1).mono ?_
 rintro e w1 ⟨rfl, hf1⟩
 have F1 := zI (yI (HX.out.2.1.then hf1) hf1)
 obtain ⟨o0, o1, o2, o3, o4, o5⟩ := box6 (hf1.heap HX.out.1.op id)
 clear hf1
 go_wp2_with fail
 refine (HA.out.2.1 _).mono ?_
 rintro e w2 ⟨rfl, hf2⟩
 have F2 := zI (yI (F1.out.1.then hf2) (F1.out.2.then hf2))
 clear hf2 F1 o0 o1 o2 o3 o4 o5
 go_wp2_with fail
 refine (HA.out.2.2 _ F2.out.1).mono ?_
 rintro e w3 ⟨G, c3, rfl, hrow, hG, hf3⟩
 have F3 := zI (yI (F2.out.1.then hf3) (yI (F2.out.2.then hf3) (yI hrow (Nat.le_trans F2.out.1.size hG))))
 have HG2 := zI (show w.heap.size + 2 ≤ G from Nat.le_trans HX.out.1.sz (Nat.le_trans F2.out.2.size hG))
 clear hf3 hrow hG F2
 go_wp2_with fail
 have hf4 : Fp Non w3 (w3.alloc (.cells #[.slice (some ⟨G, 0, none⟩) n c3] TT)) := (Fp.refl Non w3).alloc _
 have hb4 : (w3.alloc (.cells #[.slice (some ⟨G, 0, none⟩) n c3] TT)).heap[w3.heap.size]? = some (.cells #[.slice (some ⟨G, 0, none⟩) n c3] TT (0, 0)) := heap_alloc_new w3 _
 rw [HX.out.2.2.1] at hb4
 have hIn : InW w.heap.size w3.heap.size G c3 l (w3.alloc (.cells #[.slice (some ⟨G, 0, none⟩) n c3] TT)) :=
  ⟨⟨by rw [← HX.out.2.2.1] at hb4 ⊢; exact hb4, F3.out.1.size, F3.out.2.2.2, fun e => by have := F3.out.2.2.1.lt; omega, F3.out.2.2.1.keep hf4 id⟩, HX.out.2.2.2.2.1, HX.out.2.2.2.1, (F3.out.1.then hf4).size, HX.out.2.2.2.2.2.2.non (F3.out.1.then hf4)⟩
 have I4 := zI (yI hIn (yI (F3.out.1.then hf4) (F3.out.2.1.then hf4)))
 have HWB := zI (yI (show w.heap.size + 2 ≤ w3.heap.size from Nat.le_trans HX.out.1.sz F3.out.2.1.size) HG2.out)
 clear hf4 hb4 hIn F3
 generalize (w3.alloc (.cells #[.slice (some ⟨G, 0, none⟩) n c3] TT)) = w4 at *
 generalize w3.heap.size = b at *
 refine wp_region_held_drew (S := (fun w' => w'.cell? ⟨w.heap.size, 0, none⟩ = some (.int .i64 kk) ∧ w'.cell? ⟨w.heap.size, 1, none⟩ = some (.string (B p)) ∧ w'.cell? ⟨w.heap.size, 2, none⟩ = some (.string (B d)) ∧ w'.cell? ⟨w.heap.size, 3, none⟩ = some (.int .i64 vv) ∧ w'.cell? ⟨w.heap.size, 4, none⟩ = some (.int .i64 ow) ∧ w'.cell? ⟨w.heap.size, 5, none⟩ = some (.bool t))) (by kernel_rfl) ?_ (fun hH => ?_)
 ·exact box6 (I4.out.2.2.drew.heap HX.out.1.op id)
 have J0 := zI (yI (I4.out.1.non (Fp.refl Non w4).drew) (yI I4.out.2.1.drew I4.out.2.2.drew))
 clear I4
 generalize w4.drew = u0 at *
 refine tk 1 hH ?_
 refine tk 2 hH ?_
 refine tk 4 hH ?_
 refine tk 5 hH ?_
 refine wpAnyH_ready (rs := [0, 7]) (by kernel_rfl) (by simp) ?_
 refine AllReadyH.cons (o := ?obA156) ?hbA156 (fun K hK => ?wA156) (AllReadyH.cons (o := ?obB156) ?hbB156 (fun K hK => ?wB156) AllReadyH.nil)
 case hbA156 => simp only [zA, zB, zC] <;> exact rfl
 case hbB156 => simp only [zA, zB, zC] <;> exact rfl
 case wA156 =>
  go_simp
  go_at_call 86
  refine (effects_c _).mono ?_
  rintro e u1 hE
  obtain ⟨g2, g3, g4, g5, g6, g7, rfl, hM⟩ := hE.ex
  obtain ⟨fk, fc, hPk⟩ := HV.out.2.2.1 w.heap.size b G c3 g2 g3 g4 g5 g6 g7
  have hfe := hE.fp
  have J1 := zI (yI (J0.out.1.non hfe) (yI (J0.out.2.1.then hfe) (J0.out.2.2.then hfe)))
  have HM := zI hM
  have HPk := zI hPk
  have hix := hPk.ix
  have hen := hPk.en
  have HS := zI (box6 (J1.out.2.2.heap HX.out.1.op id))
  clear hE hM hPk hfe J0
  go_wp2_with fail
  refine hK.out _ _ HS.out (fun hH => ?_)
  clear hK K
  try simp only [zz]
  clear HS
  refine tk 3 hH ?_
  refine wpAnyH_ready (rs := [6, 7]) (by kernel_rfl) (by simp) ?_
  refine AllReadyH.cons (o := ?obA136) ?hbA136 (fun K hK => ?wA136) (AllReadyH.cons (o := ?obB136) ?hbB136 (fun K hK => ?wB136) AllReadyH.nil)
  case hbA136 => simp only [zA, zB, zC] <;> exact rfl
  case hbB136 => simp only [zA, zB, zC] <;> exact rfl
  case wA136 =>
   go_simp
   have hcall := HPk.out.call u1 J1.out.1 HM.out
   rw [HV.out.2.1] at hcall
   have HC6 := zI hcall
   clear hcall
   rw [hen _ _]
   go_wp2_with fail
   refine HC6.out.mono ?_
   intro e u2 hM
   obtain ⟨nv, G', cap', rfl, ho, htn, hg⟩ := hM.ex
   simp only at ho htn
   have hlow : ∀ k, ownT b G k → w.heap.size + 2 ≤ k := fun k hk => by
    rcases hk with hk | hk
    ·rw [hk]; exact HWB.out.1
    rw [hk]; exact HWB.out.2
   have hg2 : w.heap.size + 2 ≤ G' := by
    rcases hg with e | e
    ·rw [e]; exact HWB.out.2
    have h1 : u1.heap.size ≤ G' := e
    have h2 := J1.out.2.2.size; have h3 := HX.out.1.sz; omega
   have hfn : Fp Non w u2 := J1.out.2.1.trans hM.fp (fun k hk => .inr (by have := hlow k hk; omega))
   have hbn : Bx w kk p d vv ow t u2 := (HX.out.1.non J1.out.2.2).keep hM.fp (fun k hk => .inr (hlow k hk))
   have ho2 : Own w.heap.size u2 nv rn := ho.low J1.out.2.1.size
   have HRN := zI (show nv.ownBlock = some (w.heap.size + 1) → False from fun e => by
    have h1 := (ho.1.lt _ e).1; have h2 := J1.out.2.2.size; have h3 := HX.out.1.sz; omega)
   have HGL := zI hg2
   obtain ⟨vao, vcap, hvs⟩ := ho2.shape
   subst hvs
   have HN := zI (yI htn (yI ho2 (yI hfn hbn)))
   have HS := zI (box6 hbn.op)
   clear hM ho htn hlow hg hg2 hfn hbn ho2 HC6 HM HPk hix hen J1
   unfold strV
   go_wp2_with fail
   refine hK.out _ _ HS.out (fun hH => ?_)
   clear hK K
   try simp only [zz]
   clear HS
   refine rY 7 fun K hK => ?_
   go_simp
   have hz := zero_row u2
   have hfz : Fp Non u2 (u2.alloc (.cells #[.int .i64 0, .string ⟨#[]⟩, .string ⟨#[]⟩, .int .i64 0, .slice none 0 0] TR)) := (Fp.refl Non u2).alloc _
   have HQ := zI (yI hz (yI (show b ≠ u2.heap.size by have := HN.out.1.lt; omega) (yI (show G' ≠ u2.heap.size by have := HN.out.1.row.lt; omega) (yI (show (Value.slice vao rn.length vcap).ownBlock = some u2.heap.size → False from fun e => by have := (HN.out.2.1.1.lt _ e).2; omega) (show w.heap.size + 2 ≤ u2.heap.size from HN.out.2.2.2.sz)))))
   have HN := zI (yI (HN.out.1.non hfz) (yI (HN.out.2.1.grown' hfz) (yI (HN.out.2.2.1.then hfz) (HN.out.2.2.2.non hfz))))
   have HS := zI (box6 HN.out.2.2.2.op)
   clear hz hfz
   refine hK.out _ _ HS.out (fun hH => ?_)
   clear hK K HS
   try simp only [zz]
   generalize (u2.alloc (.cells #[.int .i64 0, .string ⟨#[]⟩, .string ⟨#[]⟩, .int .i64 0, .slice none 0 0] TR)) = u3 at *
   generalize u2.heap.size = q at *
   have k0 := cell_of_row _ q 0 _ _ _ HQ.out.1
   have k1 := cell_of_row _ q 1 _ _ _ HQ.out.1
   have k2 := cell_of_row _ q 2 _ _ _ HQ.out.1
   have k3 := cell_of_row _ q 3 _ _ _ HQ.out.1
   have k4 := cell_of_row _ q 4 _ _ _ HQ.out.1
   simp only [zA, zB, zC] at k0 k1 k2 k3 k4
   have zz : ∀ j, u3.frozen? ⟨q, j, none⟩ = false := fun j => by have := HQ.out.1; simp [World.frozen?, this]
   have z0 := zz 0; have z1 := zz 1; have z2 := zz 2; have z3 := zz 3; have z4 := zz 4
   clear zz
   refine rY 8 fun K hK => ?_
   go_simp
   have hw8 := set5 HQ.out.1 (.int .i64 re) (.string (B rp)) (.string (B rd)) (.int .i64 rv) (.slice vao rn.length vcap)
   have hf8 : Fp (fun k => k = q) u3 (((((u3.setCell ⟨q, 0, none⟩ (.int .i64 re)).setCell ⟨q, 1, none⟩ (.string (B rp))).setCell ⟨q, 2, none⟩ (.string (B rd))).setCell ⟨q, 3, none⟩ (.int .i64 rv)).setCell ⟨q, 4, none⟩ (.slice vao rn.length vcap)) := fp5 (S := fun k => k = q) (Fp.refl _ u3) (b := q) (.inl rfl) (.int .i64 re) (.string (B rp)) (.string (B rd)) (.int .i64 rv) (.slice vao rn.length vcap)
   have hfw8 := fp5 (S := Non) HN.out.2.2.1 (b := q) (.inr (by have := HQ.out.2.2.2.2; omega)) (.int .i64 re) (.string (B rp)) (.string (B rd)) (.int .i64 rv) (.slice vao rn.length vcap)
   have hb8 := HN.out.2.2.2.keep hf8 (fun k hk => .inr (by rw [hk]; exact HQ.out.2.2.2.2))
   have ho8 := own5 HN.out.2.1 (b := q) HQ.out.2.2.2.1 (.int .i64 re) (.string (B rp)) (.string (B rd)) (.int .i64 rv) (.slice vao rn.length vcap)
   have ht8 := HN.out.1.keep hf8 (fun e => HQ.out.2.1 e) (fun e => HQ.out.2.2.1 e)
   have HS := zI (box6 hb8.op)
   have H8 := zI (yI hw8 (yI hfw8 (yI hb8 (yI ho8 ht8))))
   have HQ2 := zI HQ.out.2
   clear hw8 hf8 hfw8 hb8 ho8 ht8 k0 k1 k2 k3 k4 z0 z1 z2 z3 z4 HN HQ
   refine hK.out _ _ HS.out (fun hH => ?_)
   clear hK K HS hH
   try simp only [zz]
   refine dn ?_
   generalize (((((World.setCell u3 _ _).setCell _ _).setCell _ _).setCell _ _).setCell _ _) = w9 at *
   have k0 := cell_of_row _ q 0 _ _ _ H8.out.1
   have k1 := cell_of_row _ q 1 _ _ _ H8.out.1
   have k2 := cell_of_row _ q 2 _ _ _ H8.out.1
   have k3 := cell_of_row _ q 3 _ _ _ H8.out.1
   have k4 := cell_of_row _ q 4 _ _ _ H8.out.1
   simp only [zA, zB, zC] at k0 k1 k2 k3 k4
   have cb := H8.out.2.2.2.2.c0
   obtain ⟨n', hn'⟩ : ∃ n', n' = l'.length := ⟨_, rfl⟩
   rw [← hn'] at cb
   have HN9 := zI hn'
   clear hn'
   obtain ⟨r0, r1, r2, r3, r4⟩ := H8.out.2.2.1.r
   have z0 := H8.out.2.2.1.fz 0; have z1 := H8.out.2.2.1.fz 1; have z2 := H8.out.2.2.1.fz 2; have z3 := H8.out.2.2.1.fz 3; have z4 := H8.out.2.2.1.fz 4
   have HNR := zI (show (Value.slice vao rn.length vcap).ownBlock = some (w.heap.size + 1) → False from fun e => HRN.out e)
   have HNR2 := zI (yI (show q = w.heap.size + 1 → False from fun e => by have := HQ2.out.2.2.2; omega) (show G' = w.heap.size + 1 → False from fun e => by have := HGL.out; omega))
   have HNB := zI (show b = w.heap.size + 1 → False from fun e => by have := HWB.out.1; omega)
   by_cases hre : re = 0
   ·have q3 : (re == 0) = true := beq_iff_eq.2 hre
    have q4 : (re = 0) = True := eq_true hre
    have q7 : (re != 0) = false := by rw [bne, q3]; rfl
    have HE := zI hre
    clear hre
    go_wp2_with fail
    refine wp_region_held_drew (S := (fun w' => w'.cell? ⟨q, 0, none⟩ = some (.int .i64 re) ∧ w'.cell? ⟨q, 1, none⟩ = some (.string (B rp)) ∧ w'.cell? ⟨q, 2, none⟩ = some (.string (B rd)) ∧ w'.cell? ⟨q, 3, none⟩ = some (.int .i64 rv) ∧ w'.cell? ⟨q, 4, none⟩ = some (.slice vao rn.length vcap) ∧ w'.cell? ⟨b, 0, none⟩ = some (.slice (some ⟨G', 0, none⟩) n' cap'))) (by kernel_rfl) ?_ (fun hH => ?_)
    ·exact ⟨(Fp.refl Non w9).drew.cell k0 id, (Fp.refl Non w9).drew.cell k1 id, (Fp.refl Non w9).drew.cell k2 id, (Fp.refl Non w9).drew.cell k3 id, (Fp.refl Non w9).drew.cell k4 id, (Fp.refl Non w9).drew.cell cb id⟩
    have HK9 := zI (yI ((Fp.refl Non w9).drew.cell k0 id) (yI ((Fp.refl Non w9).drew.cell k1 id) (yI ((Fp.refl Non w9).drew.cell k2 id) (yI ((Fp.refl Non w9).drew.cell k3 id) (yI ((Fp.refl Non w9).drew.cell k4 id) ((Fp.refl Non w9).drew.cell cb id))))))
    have hr9 := H8.out.2.2.1.non (Fp.refl Non w9).drew
    have H9 := zI (yI H8.out.2.1.drew (yI (H8.out.2.2.2.1.grown' (Fp.refl Non w9).drew) (yI (H8.out.2.2.2.2.non (Fp.refl Non w9).drew) hr9)))
    clear r0 r1 r2 r3 r4 z0 z1 z2 z3 z4
    obtain ⟨r0, r1, r2, r3, r4⟩ := (hr9).r
    have z0 := (hr9).fz 0; have z1 := (hr9).fz 1; have z2 := (hr9).fz 2; have z3 := (hr9).fz 3; have z4 := (hr9).fz 4
    clear hr9 H8 k0 k1 k2 k3 k4 cb
    generalize w9.drew = wz at *
    refine tk 0 hH ?_
    refine tk 1 hH ?_
    refine tk 2 hH ?_
    refine tk 3 hH ?_
    refine tk 4 hH ?_
    refine tk 5 hH ?_
    refine rY 6 fun K hK => ?_
    go_simp
    have hw10 := set5 H9.out.2.2.2.res (.int .i64 re) (.string (B rp)) (.string (B rd)) (.int .i64 rv) (.slice vao rn.length vcap)
    have hf10 := fp5 (S := Non) H9.out.1 (b := w.heap.size + 1) (.inr (by omega)) (.int .i64 re) (.string (B rp)) (.string (B rd)) (.int .i64 rv) (.slice vao rn.length vcap)
    have hk10 := fp5 (S := fun k => k = w.heap.size + 1) (Fp.refl _ wz) (b := w.heap.size + 1) (.inl rfl) (.int .i64 re) (.string (B rp)) (.string (B rd)) (.int .i64 rv) (.slice vao rn.length vcap)
    have hnb : (Value.slice vao rn.length vcap).ownBlock = some (w.heap.size + 1) → False := HNR.out
    have ho10 := own5 H9.out.2.1 (b := w.heap.size + 1) hnb (.int .i64 re) (.string (B rp)) (.string (B rd)) (.int .i64 rv) (.slice vao rn.length vcap)
    have hns : Ns (((((wz.setCell ⟨w.heap.size + 1, 0, none⟩ (.int .i64 re)).setCell ⟨w.heap.size + 1, 1, none⟩ (.string (B rp))).setCell ⟨w.heap.size + 1, 2, none⟩ (.string (B rd))).setCell ⟨w.heap.size + 1, 3, none⟩ (.int .i64 rv)).setCell ⟨w.heap.size + 1, 4, none⟩ (.slice vao rn.length vcap)) (.slice (some ⟨G', 0, none⟩) n' cap') l' := by
     have h1 := (H9.out.2.2.1.row.keep hk10 (fun e => HNR2.out.2 e)).ns
     rw [← HN9.out] at h1; exact h1
    have HS := zI (yI (hk10.cell HK9.out.1 (fun e => HNR2.out.1 e)) (yI (hk10.cell HK9.out.2.1 (fun e => HNR2.out.1 e)) (yI (hk10.cell HK9.out.2.2.1 (fun e => HNR2.out.1 e)) (yI (hk10.cell HK9.out.2.2.2.1 (fun e => HNR2.out.1 e)) (yI (hk10.cell HK9.out.2.2.2.2.1 (fun e => HNR2.out.1 e)) ((hk10.cell HK9.out.2.2.2.2.2 (fun e => HNB.out e))))))))
    have H10 := zI (yI hf10 (yI ho10 hns))
    have HW10 := zI hw10
    clear hw10 hf10 hk10 hnb ho10 hns r0 r1 r2 r3 r4 z0 z1 z2 z3 z4
    refine hK.out _ _ HS.out (fun hH => ?_)
    clear hK K HS hH
    try simp only [zz]
    refine dn ?_
    generalize (((((World.setCell wz _ _).setCell _ _).setCell _ _).setCell _ _).setCell _ _) = wy at *
    have s0 := cell_of_row _ (w.heap.size + 1) 0 _ _ _ HW10.out
    have s1 := cell_of_row _ (w.heap.size + 1) 1 _ _ _ HW10.out
    have s2 := cell_of_row _ (w.heap.size + 1) 2 _ _ _ HW10.out
    have s3 := cell_of_row _ (w.heap.size + 1) 3 _ _ _ HW10.out
    have s4 := cell_of_row _ (w.heap.size + 1) 4 _ _ _ HW10.out
    simp only [zA, zB, zC] at s0 s1 s2 s3 s4
    go_wp2
    exact bodyPost_ret (v := .tuple #[.slice (some ⟨G', 0, none⟩) n' cap', .agg #[.int .i64 re, .string (B rp), .string (B rd), .int .i64 rv, .slice vao rn.length vcap]]) (by simp [results, Tryz.results52, go_sem, s0, s1, s2, s3, s4]) rfl ⟨⟨_, _, rfl, H10.out.2.2, H10.out.2.1, .inr (fun k hk => by simp [Value.ownBlock] at hk; have := HGL.out; omega)⟩, H10.out.1⟩
   have q3 : (re == 0) = false := beq_eq_false_iff_ne.2 hre
   have q4 : (re = 0) = False := eq_false hre
   have q7 : (re != 0) = true := by rw [bne, q3]; rfl
   have HE := zI (HV.out.2.2.2 hre).1
   clear hre
   go_wp2_with fail
   refine wp_region_held_drew (S := (fun w' => w'.cell? ⟨q, 0, none⟩ = some (.int .i64 re) ∧ w'.cell? ⟨q, 1, none⟩ = some (.string (B rp)) ∧ w'.cell? ⟨q, 2, none⟩ = some (.string (B rd)) ∧ w'.cell? ⟨q, 3, none⟩ = some (.int .i64 rv) ∧ w'.cell? ⟨q, 4, none⟩ = some (.slice vao rn.length vcap))) (by kernel_rfl) ?_ (fun hH => ?_)
   ·exact ⟨(Fp.refl Non w9).drew.cell k0 id, (Fp.refl Non w9).drew.cell k1 id, (Fp.refl Non w9).drew.cell k2 id, (Fp.refl Non w9).drew.cell k3 id, (Fp.refl Non w9).drew.cell k4 id⟩
   have HK9 := zI (yI ((Fp.refl Non w9).drew.cell k0 id) (yI ((Fp.refl Non w9).drew.cell k1 id) (yI ((Fp.refl Non w9).drew.cell k2 id) (yI ((Fp.refl Non w9).drew.cell k3 id) ((Fp.refl Non w9).drew.cell k4 id)))))
   have hr9 := H8.out.2.2.1.non (Fp.refl Non w9).drew
   have H9 := zI (yI H8.out.2.1.drew (yI (H8.out.2.2.2.1.grown' (Fp.refl Non w9).drew) (yI (H8.out.2.2.2.2.non (Fp.refl Non w9).drew) hr9)))
   clear r0 r1 r2 r3 r4 z0 z1 z2 z3 z4
   obtain ⟨r0, r1, r2, r3, r4⟩ := (hr9).r
   have z0 := (hr9).fz 0; have z1 := (hr9).fz 1; have z2 := (hr9).fz 2; have z3 := (hr9).fz 3; have z4 := (hr9).fz 4
   clear hr9 H8 k0 k1 k2 k3 k4 cb
   generalize w9.drew = wz at *
   refine tk 0 hH ?_
   refine tk 1 hH ?_
   refine tk 2 hH ?_
   refine rY 3 fun K hK => ?_
   go_simp
   have hw10 := set5 H9.out.2.2.2.res (.int .i64 re) (.string (B rp)) (.string (B rd)) (.int .i64 rv) (.slice vao rn.length vcap)
   have hf10 := fp5 (S := Non) H9.out.1 (b := w.heap.size + 1) (.inr (by omega)) (.int .i64 re) (.string (B rp)) (.string (B rd)) (.int .i64 rv) (.slice vao rn.length vcap)
   have hk10 := fp5 (S := fun k => k = w.heap.size + 1) (Fp.refl _ wz) (b := w.heap.size + 1) (.inl rfl) (.int .i64 re) (.string (B rp)) (.string (B rd)) (.int .i64 rv) (.slice vao rn.length vcap)
   have hnb : (Value.slice vao rn.length vcap).ownBlock = some (w.heap.size + 1) → False := HNR.out
   have ho10 := own5 H9.out.2.1 (b := w.heap.size + 1) hnb (.int .i64 re) (.string (B rp)) (.string (B rd)) (.int .i64 rv) (.slice vao rn.length vcap)
   have hns : Ns (((((wz.setCell ⟨w.heap.size + 1, 0, none⟩ (.int .i64 re)).setCell ⟨w.heap.size + 1, 1, none⟩ (.string (B rp))).setCell ⟨w.heap.size + 1, 2, none⟩ (.string (B rd))).setCell ⟨w.heap.size + 1, 3, none⟩ (.int .i64 rv)).setCell ⟨w.heap.size + 1, 4, none⟩ (.slice vao rn.length vcap)) (.slice ao n cap) l' := by rw [HE.out]; exact HV.out.1.non hf10
   have HS := zI (yI (hk10.cell HK9.out.1 (fun e => HNR2.out.1 e)) (yI (hk10.cell HK9.out.2.1 (fun e => HNR2.out.1 e)) (yI (hk10.cell HK9.out.2.2.1 (fun e => HNR2.out.1 e)) (yI (hk10.cell HK9.out.2.2.2.1 (fun e => HNR2.out.1 e)) ((hk10.cell HK9.out.2.2.2.2 (fun e => HNR2.out.1 e)))))))
   have H10 := zI (yI hf10 (yI ho10 hns))
   have HW10 := zI hw10
   clear hw10 hf10 hk10 hnb ho10 hns r0 r1 r2 r3 r4 z0 z1 z2 z3 z4
   refine hK.out _ _ HS.out (fun hH => ?_)
   clear hK K HS hH
   try simp only [zz]
   refine dn ?_
   generalize (((((World.setCell wz _ _).setCell _ _).setCell _ _).setCell _ _).setCell _ _) = wy at *
   have s0 := cell_of_row _ (w.heap.size + 1) 0 _ _ _ HW10.out
   have s1 := cell_of_row _ (w.heap.size + 1) 1 _ _ _ HW10.out
   have s2 := cell_of_row _ (w.heap.size + 1) 2 _ _ _ HW10.out
   have s3 := cell_of_row _ (w.heap.size + 1) 3 _ _ _ HW10.out
   have s4 := cell_of_row _ (w.heap.size + 1) 4 _ _ _ HW10.out
   simp only [zA, zB, zC] at s0 s1 s2 s3 s4
   go_wp2
   exact bodyPost_ret (v := .tuple #[.slice ao n cap, .agg #[.int .i64 re, .string (B rp), .string (B rd), .int .i64 rv, .slice vao rn.length vcap]]) (by simp [results, Tryz.results52, go_sem, s0, s1, s2, s3, s4]) rfl ⟨⟨_, _, rfl, H10.out.2.2, H10.out.2.1, .inl rfl⟩, H10.out.1⟩
  go_simp
  have hz := zero_row u1
  have hfz : Fp Non u1 (u1.alloc (.cells #[.int .i64 0, .string ⟨#[]⟩, .string ⟨#[]⟩, .int .i64 0, .slice none 0 0] TR)) := (Fp.refl Non u1).alloc _
  have J2 := zI (yI (J1.out.1.non hfz) (yI (J1.out.2.1.then hfz) (J1.out.2.2.then hfz)))
  have HM := zI (HM.out.non hfz)
  have HZ := zI (yI hz (yI (show b < u1.heap.size from J1.out.1.tn.lt) (yI (show G < u1.heap.size from J1.out.1.tn.row.lt) (show u1.heap.size < (u1.alloc (.cells #[.int .i64 0, .string ⟨#[]⟩, .string ⟨#[]⟩, .int .i64 0, .slice none 0 0] TR)).heap.size by simp))))
  have HS := zI (box6 (J2.out.2.2.heap HX.out.1.op id))
  clear hz hfz J1
  refine hK.out _ _ HS.out (fun hH => ?_)
  clear hK K HS
  try simp only [zz]
  generalize (u1.alloc (.cells #[.int .i64 0, .string ⟨#[]⟩, .string ⟨#[]⟩, .int .i64 0, .slice none 0 0] TR)) = u2 at *
  generalize u1.heap.size = q at *
  refine rY 6 fun K hK => ?_
  go_simp
  have hcall := HPk.out.call u2 J2.out.1 HM.out
  rw [HV.out.2.1] at hcall
  have HC6 := zI hcall
  clear hcall
  rw [hen _ _]
  go_wp2_with fail
  refine HC6.out.mono ?_
  intro e u3 hM
  obtain ⟨nv, G', cap', rfl, ho, htn, hg⟩ := hM.ex
  simp only at ho htn
  have hlow : ∀ k, ownT b G k → w.heap.size + 2 ≤ k := fun k hk => by
   rcases hk with hk | hk
   ·rw [hk]; exact HWB.out.1
   rw [hk]; exact HWB.out.2
  have hg2 : w.heap.size + 2 ≤ G' := by
   rcases hg with e | e
   ·rw [e]; exact HWB.out.2
   have h1 : u2.heap.size ≤ G' := e
   have h2 := J2.out.2.2.size; have h3 := HX.out.1.sz; omega
  have hfn : Fp Non w u3 := J2.out.2.1.trans hM.fp (fun k hk => .inr (by have := hlow k hk; omega))
  have hbn : Bx w kk p d vv ow t u3 := (HX.out.1.non J2.out.2.2).keep hM.fp (fun k hk => .inr (hlow k hk))
  have ho2 : Own w.heap.size u3 nv rn := ho.low J2.out.2.1.size
  have hqz := hM.fp.heap HZ.out.1 (fun e => by
   rcases e with e | e
   ·have := HZ.out.2.1; omega
   have := HZ.out.2.2.1; omega)
  have hql : q < u2.heap.size := HZ.out.2.2.2
  have hnq := fun e => (ho.1.lt q e).1
  have hQ := yI hqz (yI (show b ≠ q by have := HZ.out.2.1; omega) (yI (show G' ≠ q by
   rcases hg with e | e
   ·have := HZ.out.2.2.1; omega
   have h1 : u2.heap.size ≤ G' := e
   omega) (yI (show nv.ownBlock = some q → False from fun e => by have := hnq e; omega) (show w.heap.size + 2 ≤ q by have := HZ.out.2.1; have := HWB.out.1; omega))))
  have HQ := zI hQ
  clear hqz hql hnq hQ HZ
  have HRN := zI (show nv.ownBlock = some (w.heap.size + 1) → False from fun e => by
   have h1 := (ho.1.lt _ e).1; have h2 := J2.out.2.2.size; have h3 := HX.out.1.sz; omega)
  have HGL := zI hg2
  obtain ⟨vao, vcap, hvs⟩ := ho2.shape
  subst hvs
  have HN := zI (yI htn (yI ho2 (yI hfn hbn)))
  have HS := zI (box6 hbn.op)
  clear hM ho htn hlow hg hg2 hfn hbn ho2 HC6 HM HPk hix hen J2
  unfold strV
  go_wp2_with fail
  refine hK.out _ _ HS.out (fun hH => ?_)
  clear hK K
  try simp only [zz]
  clear HS
  have k0 := cell_of_row _ q 0 _ _ _ HQ.out.1
  have k1 := cell_of_row _ q 1 _ _ _ HQ.out.1
  have k2 := cell_of_row _ q 2 _ _ _ HQ.out.1
  have k3 := cell_of_row _ q 3 _ _ _ HQ.out.1
  have k4 := cell_of_row _ q 4 _ _ _ HQ.out.1
  simp only [zA, zB, zC] at k0 k1 k2 k3 k4
  have zz : ∀ j, u3.frozen? ⟨q, j, none⟩ = false := fun j => by have := HQ.out.1; simp [World.frozen?, this]
  have z0 := zz 0; have z1 := zz 1; have z2 := zz 2; have z3 := zz 3; have z4 := zz 4
  clear zz
  refine rY 8 fun K hK => ?_
  go_simp
  have hw8 := set5 HQ.out.1 (.int .i64 re) (.string (B rp)) (.string (B rd)) (.int .i64 rv) (.slice vao rn.length vcap)
  have hf8 : Fp (fun k => k = q) u3 (((((u3.setCell ⟨q, 0, none⟩ (.int .i64 re)).setCell ⟨q, 1, none⟩ (.string (B rp))).setCell ⟨q, 2, none⟩ (.string (B rd))).setCell ⟨q, 3, none⟩ (.int .i64 rv)).setCell ⟨q, 4, none⟩ (.slice vao rn.length vcap)) := fp5 (S := fun k => k = q) (Fp.refl _ u3) (b := q) (.inl rfl) (.int .i64 re) (.string (B rp)) (.string (B rd)) (.int .i64 rv) (.slice vao rn.length vcap)
  have hfw8 := fp5 (S := Non) HN.out.2.2.1 (b := q) (.inr (by have := HQ.out.2.2.2.2; omega)) (.int .i64 re) (.string (B rp)) (.string (B rd)) (.int .i64 rv) (.slice vao rn.length vcap)
  have hb8 := HN.out.2.2.2.keep hf8 (fun k hk => .inr (by rw [hk]; exact HQ.out.2.2.2.2))
  have ho8 := own5 HN.out.2.1 (b := q) HQ.out.2.2.2.1 (.int .i64 re) (.string (B rp)) (.string (B rd)) (.int .i64 rv) (.slice vao rn.length vcap)
  have ht8 := HN.out.1.keep hf8 (fun e => HQ.out.2.1 e) (fun e => HQ.out.2.2.1 e)
  have HS := zI (box6 hb8.op)
  have H8 := zI (yI hw8 (yI hfw8 (yI hb8 (yI ho8 ht8))))
  have HQ2 := zI HQ.out.2
  clear hw8 hf8 hfw8 hb8 ho8 ht8 k0 k1 k2 k3 k4 z0 z1 z2 z3 z4 HN HQ
  refine hK.out _ _ HS.out (fun hH => ?_)
  clear hK K HS hH
  try simp only [zz]
  refine dn ?_
  generalize (((((World.setCell u3 _ _).setCell _ _).setCell _ _).setCell _ _).setCell _ _) = w9 at *
  have k0 := cell_of_row _ q 0 _ _ _ H8.out.1
  have k1 := cell_of_row _ q 1 _ _ _ H8.out.1
  have k2 := cell_of_row _ q 2 _ _ _ H8.out.1
  have k3 := cell_of_row _ q 3 _ _ _ H8.out.1
  have k4 := cell_of_row _ q 4 _ _ _ H8.out.1
  simp only [zA, zB, zC] at k0 k1 k2 k3 k4
  have cb := H8.out.2.2.2.2.c0
  obtain ⟨n', hn'⟩ : ∃ n', n' = l'.length := ⟨_, rfl⟩
  rw [← hn'] at cb
  have HN9 := zI hn'
  clear hn'
  obtain ⟨r0, r1, r2, r3, r4⟩ := H8.out.2.2.1.r
  have z0 := H8.out.2.2.1.fz 0; have z1 := H8.out.2.2.1.fz 1; have z2 := H8.out.2.2.1.fz 2; have z3 := H8.out.2.2.1.fz 3; have z4 := H8.out.2.2.1.fz 4
  have HNR := zI (show (Value.slice vao rn.length vcap).ownBlock = some (w.heap.size + 1) → False from fun e => HRN.out e)
  have HNR2 := zI (yI (show q = w.heap.size + 1 → False from fun e => by have := HQ2.out.2.2.2; omega) (show G' = w.heap.size + 1 → False from fun e => by have := HGL.out; omega))
  have HNB := zI (show b = w.heap.size + 1 → False from fun e => by have := HWB.out.1; omega)
  by_cases hre : re = 0
  ·have q3 : (re == 0) = true := beq_iff_eq.2 hre
   have q4 : (re = 0) = True := eq_true hre
   have q7 : (re != 0) = false := by rw [bne, q3]; rfl
   have HE := zI hre
   clear hre
   go_wp2_with fail
   refine wp_region_held_drew (S := (fun w' => w'.cell? ⟨q, 0, none⟩ = some (.int .i64 re) ∧ w'.cell? ⟨q, 1, none⟩ = some (.string (B rp)) ∧ w'.cell? ⟨q, 2, none⟩ = some (.string (B rd)) ∧ w'.cell? ⟨q, 3, none⟩ = some (.int .i64 rv) ∧ w'.cell? ⟨q, 4, none⟩ = some (.slice vao rn.length vcap) ∧ w'.cell? ⟨b, 0, none⟩ = some (.slice (some ⟨G', 0, none⟩) n' cap'))) (by kernel_rfl) ?_ (fun hH => ?_)
   ·exact ⟨(Fp.refl Non w9).drew.cell k0 id, (Fp.refl Non w9).drew.cell k1 id, (Fp.refl Non w9).drew.cell k2 id, (Fp.refl Non w9).drew.cell k3 id, (Fp.refl Non w9).drew.cell k4 id, (Fp.refl Non w9).drew.cell cb id⟩
   have HK9 := zI (yI ((Fp.refl Non w9).drew.cell k0 id) (yI ((Fp.refl Non w9).drew.cell k1 id) (yI ((Fp.refl Non w9).drew.cell k2 id) (yI ((Fp.refl Non w9).drew.cell k3 id) (yI ((Fp.refl Non w9).drew.cell k4 id) ((Fp.refl Non w9).drew.cell cb id))))))
   have hr9 := H8.out.2.2.1.non (Fp.refl Non w9).drew
   have H9 := zI (yI H8.out.2.1.drew (yI (H8.out.2.2.2.1.grown' (Fp.refl Non w9).drew) (yI (H8.out.2.2.2.2.non (Fp.refl Non w9).drew) hr9)))
   clear r0 r1 r2 r3 r4 z0 z1 z2 z3 z4
   obtain ⟨r0, r1, r2, r3, r4⟩ := (hr9).r
   have z0 := (hr9).fz 0; have z1 := (hr9).fz 1; have z2 := (hr9).fz 2; have z3 := (hr9).fz 3; have z4 := (hr9).fz 4
   clear hr9 H8 k0 k1 k2 k3 k4 cb
   generalize w9.drew = wz at *
   refine tk 0 hH ?_
   refine tk 1 hH ?_
   refine tk 2 hH ?_
   refine tk 3 hH ?_
   refine tk 4 hH ?_
   refine tk 5 hH ?_
   refine rY 6 fun K hK => ?_
   go_simp
   have hw10 := set5 H9.out.2.2.2.res (.int .i64 re) (.string (B rp)) (.string (B rd)) (.int .i64 rv) (.slice vao rn.length vcap)
   have hf10 := fp5 (S := Non) H9.out.1 (b := w.heap.size + 1) (.inr (by omega)) (.int .i64 re) (.string (B rp)) (.string (B rd)) (.int .i64 rv) (.slice vao rn.length vcap)
   have hk10 := fp5 (S := fun k => k = w.heap.size + 1) (Fp.refl _ wz) (b := w.heap.size + 1) (.inl rfl) (.int .i64 re) (.string (B rp)) (.string (B rd)) (.int .i64 rv) (.slice vao rn.length vcap)
   have hnb : (Value.slice vao rn.length vcap).ownBlock = some (w.heap.size + 1) → False := HNR.out
   have ho10 := own5 H9.out.2.1 (b := w.heap.size + 1) hnb (.int .i64 re) (.string (B rp)) (.string (B rd)) (.int .i64 rv) (.slice vao rn.length vcap)
   have hns : Ns (((((wz.setCell ⟨w.heap.size + 1, 0, none⟩ (.int .i64 re)).setCell ⟨w.heap.size + 1, 1, none⟩ (.string (B rp))).setCell ⟨w.heap.size + 1, 2, none⟩ (.string (B rd))).setCell ⟨w.heap.size + 1, 3, none⟩ (.int .i64 rv)).setCell ⟨w.heap.size + 1, 4, none⟩ (.slice vao rn.length vcap)) (.slice (some ⟨G', 0, none⟩) n' cap') l' := by
    have h1 := (H9.out.2.2.1.row.keep hk10 (fun e => HNR2.out.2 e)).ns
    rw [← HN9.out] at h1; exact h1
   have HS := zI (yI (hk10.cell HK9.out.1 (fun e => HNR2.out.1 e)) (yI (hk10.cell HK9.out.2.1 (fun e => HNR2.out.1 e)) (yI (hk10.cell HK9.out.2.2.1 (fun e => HNR2.out.1 e)) (yI (hk10.cell HK9.out.2.2.2.1 (fun e => HNR2.out.1 e)) (yI (hk10.cell HK9.out.2.2.2.2.1 (fun e => HNR2.out.1 e)) ((hk10.cell HK9.out.2.2.2.2.2 (fun e => HNB.out e))))))))
   have H10 := zI (yI hf10 (yI ho10 hns))
   have HW10 := zI hw10
   clear hw10 hf10 hk10 hnb ho10 hns r0 r1 r2 r3 r4 z0 z1 z2 z3 z4
   refine hK.out _ _ HS.out (fun hH => ?_)
   clear hK K HS hH
   try simp only [zz]
   refine dn ?_
   generalize (((((World.setCell wz _ _).setCell _ _).setCell _ _).setCell _ _).setCell _ _) = wy at *
   have s0 := cell_of_row _ (w.heap.size + 1) 0 _ _ _ HW10.out
   have s1 := cell_of_row _ (w.heap.size + 1) 1 _ _ _ HW10.out
   have s2 := cell_of_row _ (w.heap.size + 1) 2 _ _ _ HW10.out
   have s3 := cell_of_row _ (w.heap.size + 1) 3 _ _ _ HW10.out
   have s4 := cell_of_row _ (w.heap.size + 1) 4 _ _ _ HW10.out
   simp only [zA, zB, zC] at s0 s1 s2 s3 s4
   go_wp2
   exact bodyPost_ret (v := .tuple #[.slice (some ⟨G', 0, none⟩) n' cap', .agg #[.int .i64 re, .string (B rp), .string (B rd), .int .i64 rv, .slice vao rn.length vcap]]) (by simp [results, Tryz.results52, go_sem, s0, s1, s2, s3, s4]) rfl ⟨⟨_, _, rfl, H10.out.2.2, H10.out.2.1, .inr (fun k hk => by simp [Value.ownBlock] at hk; have := HGL.out; omega)⟩, H10.out.1⟩
  have q3 : (re == 0) = false := beq_eq_false_iff_ne.2 hre
  have q4 : (re = 0) = False := eq_false hre
  have q7 : (re != 0) = true := by rw [bne, q3]; rfl
  have HE := zI (HV.out.2.2.2 hre).1
  clear hre
  go_wp2_with fail
  refine wp_region_held_drew (S := (fun w' => w'.cell? ⟨q, 0, none⟩ = some (.int .i64 re) ∧ w'.cell? ⟨q, 1, none⟩ = some (.string (B rp)) ∧ w'.cell? ⟨q, 2, none⟩ = some (.string (B rd)) ∧ w'.cell? ⟨q, 3, none⟩ = some (.int .i64 rv) ∧ w'.cell? ⟨q, 4, none⟩ = some (.slice vao rn.length vcap))) (by kernel_rfl) ?_ (fun hH => ?_)
  ·exact ⟨(Fp.refl Non w9).drew.cell k0 id, (Fp.refl Non w9).drew.cell k1 id, (Fp.refl Non w9).drew.cell k2 id, (Fp.refl Non w9).drew.cell k3 id, (Fp.refl Non w9).drew.cell k4 id⟩
  have HK9 := zI (yI ((Fp.refl Non w9).drew.cell k0 id) (yI ((Fp.refl Non w9).drew.cell k1 id) (yI ((Fp.refl Non w9).drew.cell k2 id) (yI ((Fp.refl Non w9).drew.cell k3 id) ((Fp.refl Non w9).drew.cell k4 id)))))
  have hr9 := H8.out.2.2.1.non (Fp.refl Non w9).drew
  have H9 := zI (yI H8.out.2.1.drew (yI (H8.out.2.2.2.1.grown' (Fp.refl Non w9).drew) (yI (H8.out.2.2.2.2.non (Fp.refl Non w9).drew) hr9)))
  clear r0 r1 r2 r3 r4 z0 z1 z2 z3 z4
  obtain ⟨r0, r1, r2, r3, r4⟩ := (hr9).r
  have z0 := (hr9).fz 0; have z1 := (hr9).fz 1; have z2 := (hr9).fz 2; have z3 := (hr9).fz 3; have z4 := (hr9).fz 4
  clear hr9 H8 k0 k1 k2 k3 k4 cb
  generalize w9.drew = wz at *
  refine tk 0 hH ?_
  refine tk 1 hH ?_
  refine tk 2 hH ?_
  refine rY 3 fun K hK => ?_
  go_simp
  have hw10 := set5 H9.out.2.2.2.res (.int .i64 re) (.string (B rp)) (.string (B rd)) (.int .i64 rv) (.slice vao rn.length vcap)
  have hf10 := fp5 (S := Non) H9.out.1 (b := w.heap.size + 1) (.inr (by omega)) (.int .i64 re) (.string (B rp)) (.string (B rd)) (.int .i64 rv) (.slice vao rn.length vcap)
  have hk10 := fp5 (S := fun k => k = w.heap.size + 1) (Fp.refl _ wz) (b := w.heap.size + 1) (.inl rfl) (.int .i64 re) (.string (B rp)) (.string (B rd)) (.int .i64 rv) (.slice vao rn.length vcap)
  have hnb : (Value.slice vao rn.length vcap).ownBlock = some (w.heap.size + 1) → False := HNR.out
  have ho10 := own5 H9.out.2.1 (b := w.heap.size + 1) hnb (.int .i64 re) (.string (B rp)) (.string (B rd)) (.int .i64 rv) (.slice vao rn.length vcap)
  have hns : Ns (((((wz.setCell ⟨w.heap.size + 1, 0, none⟩ (.int .i64 re)).setCell ⟨w.heap.size + 1, 1, none⟩ (.string (B rp))).setCell ⟨w.heap.size + 1, 2, none⟩ (.string (B rd))).setCell ⟨w.heap.size + 1, 3, none⟩ (.int .i64 rv)).setCell ⟨w.heap.size + 1, 4, none⟩ (.slice vao rn.length vcap)) (.slice ao n cap) l' := by rw [HE.out]; exact HV.out.1.non hf10
  have HS := zI (yI (hk10.cell HK9.out.1 (fun e => HNR2.out.1 e)) (yI (hk10.cell HK9.out.2.1 (fun e => HNR2.out.1 e)) (yI (hk10.cell HK9.out.2.2.1 (fun e => HNR2.out.1 e)) (yI (hk10.cell HK9.out.2.2.2.1 (fun e => HNR2.out.1 e)) ((hk10.cell HK9.out.2.2.2.2 (fun e => HNR2.out.1 e)))))))
  have H10 := zI (yI hf10 (yI ho10 hns))
  have HW10 := zI hw10
  clear hw10 hf10 hk10 hnb ho10 hns r0 r1 r2 r3 r4 z0 z1 z2 z3 z4
  refine hK.out _ _ HS.out (fun hH => ?_)
  clear hK K HS hH
  try simp only [zz]
  refine dn ?_
  generalize (((((World.setCell wz _ _).setCell _ _).setCell _ _).setCell _ _).setCell _ _) = wy at *
  have s0 := cell_of_row _ (w.heap.size + 1) 0 _ _ _ HW10.out
  have s1 := cell_of_row _ (w.heap.size + 1) 1 _ _ _ HW10.out
  have s2 := cell_of_row _ (w.heap.size + 1) 2 _ _ _ HW10.out
  have s3 := cell_of_row _ (w.heap.size + 1) 3 _ _ _ HW10.out
  have s4 := cell_of_row _ (w.heap.size + 1) 4 _ _ _ HW10.out
  simp only [zA, zB, zC] at s0 s1 s2 s3 s4
  go_wp2
  exact bodyPost_ret (v := .tuple #[.slice ao n cap, .agg #[.int .i64 re, .string (B rp), .string (B rd), .int .i64 rv, .slice vao rn.length vcap]]) (by simp [results, Tryz.results52, go_sem, s0, s1, s2, s3, s4]) rfl ⟨⟨_, _, rfl, H10.out.2.2, H10.out.2.1, .inl rfl⟩, H10.out.1⟩
 go_simp
 have hz := zero_row u0
 have hfz : Fp Non u0 (u0.alloc (.cells #[.int .i64 0, .string ⟨#[]⟩, .string ⟨#[]⟩, .int .i64 0, .slice none 0 0] TR)) := (Fp.refl Non u0).alloc _
 have J1 := zI (yI (J0.out.1.non hfz) (yI (J0.out.2.1.then hfz) (J0.out.2.2.then hfz)))
 have HZ := zI (yI hz (yI (show b < u0.heap.size from J0.out.1.tn.lt) (yI (show G < u0.heap.size from J0.out.1.tn.row.lt) (show u0.heap.size < (u0.alloc (.cells #[.int .i64 0, .string ⟨#[]⟩, .string ⟨#[]⟩, .int .i64 0, .slice none 0 0] TR)).heap.size by simp))))
 have HS := zI (box6 (J1.out.2.2.heap HX.out.1.op id))
 clear hz hfz J0
 refine hK.out _ _ HS.out (fun hH => ?_)
 clear hK K HS
 try simp only [zz]
 generalize (u0.alloc (.cells #[.int .i64 0, .string ⟨#[]⟩, .string ⟨#[]⟩, .int .i64 0, .slice none 0 0] TR)) = u1 at *
 generalize u0.heap.size = q at *
 refine rY 0 fun K hK => ?_
 go_simp
 go_at_call 86
 refine (effects_c _).mono ?_
 rintro e u2 hE
 obtain ⟨g2, g3, g4, g5, g6, g7, rfl, hM⟩ := hE.ex
 obtain ⟨fk, fc, hPk⟩ := HV.out.2.2.1 w.heap.size b G c3 g2 g3 g4 g5 g6 g7
 have hfe := hE.fp
 have J2 := zI (yI (J1.out.1.non hfe) (yI (J1.out.2.1.then hfe) (J1.out.2.2.then hfe)))
 have HM := zI hM
 have HPk := zI hPk
 have hix := hPk.ix
 have hen := hPk.en
 have HS := zI (box6 (J2.out.2.2.heap HX.out.1.op id))
 have HZ := zI (yI (hfe.heap HZ.out.1 id) (yI HZ.out.2.1 (yI HZ.out.2.2.1 (Nat.lt_of_lt_of_le HZ.out.2.2.2 hfe.size))))
 clear hE hM hPk hfe J1
 go_wp2_with fail
 refine hK.out _ _ HS.out (fun hH => ?_)
 clear hK K
 try simp only [zz]
 clear HS
 refine tk 3 hH ?_
 refine rY 6 fun K hK => ?_
 go_simp
 have hcall := HPk.out.call u2 J2.out.1 HM.out
 rw [HV.out.2.1] at hcall
 have HC6 := zI hcall
 clear hcall
 rw [hen _ _]
 go_wp2_with fail
 refine HC6.out.mono ?_
 intro e u3 hM
 obtain ⟨nv, G', cap', rfl, ho, htn, hg⟩ := hM.ex
 simp only at ho htn
 have hlow : ∀ k, ownT b G k → w.heap.size + 2 ≤ k := fun k hk => by
  rcases hk with hk | hk
  ·rw [hk]; exact HWB.out.1
  rw [hk]; exact HWB.out.2
 have hg2 : w.heap.size + 2 ≤ G' := by
  rcases hg with e | e
  ·rw [e]; exact HWB.out.2
  have h1 : u2.heap.size ≤ G' := e
  have h2 := J2.out.2.2.size; have h3 := HX.out.1.sz; omega
 have hfn : Fp Non w u3 := J2.out.2.1.trans hM.fp (fun k hk => .inr (by have := hlow k hk; omega))
 have hbn : Bx w kk p d vv ow t u3 := (HX.out.1.non J2.out.2.2).keep hM.fp (fun k hk => .inr (hlow k hk))
 have ho2 : Own w.heap.size u3 nv rn := ho.low J2.out.2.1.size
 have hqz := hM.fp.heap HZ.out.1 (fun e => by
  rcases e with e | e
  ·have := HZ.out.2.1; omega
  have := HZ.out.2.2.1; omega)
 have hql : q < u2.heap.size := HZ.out.2.2.2
 have hnq := fun e => (ho.1.lt q e).1
 have hQ := yI hqz (yI (show b ≠ q by have := HZ.out.2.1; omega) (yI (show G' ≠ q by
  rcases hg with e | e
  ·have := HZ.out.2.2.1; omega
  have h1 : u2.heap.size ≤ G' := e
  omega) (yI (show nv.ownBlock = some q → False from fun e => by have := hnq e; omega) (show w.heap.size + 2 ≤ q by have := HZ.out.2.1; have := HWB.out.1; omega))))
 have HQ := zI hQ
 clear hqz hql hnq hQ HZ
 have HRN := zI (show nv.ownBlock = some (w.heap.size + 1) → False from fun e => by
  have h1 := (ho.1.lt _ e).1; have h2 := J2.out.2.2.size; have h3 := HX.out.1.sz; omega)
 have HGL := zI hg2
 obtain ⟨vao, vcap, hvs⟩ := ho2.shape
 subst hvs
 have HN := zI (yI htn (yI ho2 (yI hfn hbn)))
 have HS := zI (box6 hbn.op)
 clear hM ho htn hlow hg hg2 hfn hbn ho2 HC6 HM HPk hix hen J2
 unfold strV
 go_wp2_with fail
 refine hK.out _ _ HS.out (fun hH => ?_)
 clear hK K
 try simp only [zz]
 clear HS
 have k0 := cell_of_row _ q 0 _ _ _ HQ.out.1
 have k1 := cell_of_row _ q 1 _ _ _ HQ.out.1
 have k2 := cell_of_row _ q 2 _ _ _ HQ.out.1
 have k3 := cell_of_row _ q 3 _ _ _ HQ.out.1
 have k4 := cell_of_row _ q 4 _ _ _ HQ.out.1
 simp only [zA, zB, zC] at k0 k1 k2 k3 k4
 have zz : ∀ j, u3.frozen? ⟨q, j, none⟩ = false := fun j => by have := HQ.out.1; simp [World.frozen?, this]
 have z0 := zz 0; have z1 := zz 1; have z2 := zz 2; have z3 := zz 3; have z4 := zz 4
 clear zz
 refine rY 8 fun K hK => ?_
 go_simp
 have hw8 := set5 HQ.out.1 (.int .i64 re) (.string (B rp)) (.string (B rd)) (.int .i64 rv) (.slice vao rn.length vcap)
 have hf8 : Fp (fun k => k = q) u3 (((((u3.setCell ⟨q, 0, none⟩ (.int .i64 re)).setCell ⟨q, 1, none⟩ (.string (B rp))).setCell ⟨q, 2, none⟩ (.string (B rd))).setCell ⟨q, 3, none⟩ (.int .i64 rv)).setCell ⟨q, 4, none⟩ (.slice vao rn.length vcap)) := fp5 (S := fun k => k = q) (Fp.refl _ u3) (b := q) (.inl rfl) (.int .i64 re) (.string (B rp)) (.string (B rd)) (.int .i64 rv) (.slice vao rn.length vcap)
 have hfw8 := fp5 (S := Non) HN.out.2.2.1 (b := q) (.inr (by have := HQ.out.2.2.2.2; omega)) (.int .i64 re) (.string (B rp)) (.string (B rd)) (.int .i64 rv) (.slice vao rn.length vcap)
 have hb8 := HN.out.2.2.2.keep hf8 (fun k hk => .inr (by rw [hk]; exact HQ.out.2.2.2.2))
 have ho8 := own5 HN.out.2.1 (b := q) HQ.out.2.2.2.1 (.int .i64 re) (.string (B rp)) (.string (B rd)) (.int .i64 rv) (.slice vao rn.length vcap)
 have ht8 := HN.out.1.keep hf8 (fun e => HQ.out.2.1 e) (fun e => HQ.out.2.2.1 e)
 have HS := zI (box6 hb8.op)
 have H8 := zI (yI hw8 (yI hfw8 (yI hb8 (yI ho8 ht8))))
 have HQ2 := zI HQ.out.2
 clear hw8 hf8 hfw8 hb8 ho8 ht8 k0 k1 k2 k3 k4 z0 z1 z2 z3 z4 HN HQ
 refine hK.out _ _ HS.out (fun hH => ?_)
 clear hK K HS hH
 try simp only [zz]
 refine dn ?_
 generalize (((((World.setCell u3 _ _).setCell _ _).setCell _ _).setCell _ _).setCell _ _) = w9 at *
 have k0 := cell_of_row _ q 0 _ _ _ H8.out.1
 have k1 := cell_of_row _ q 1 _ _ _ H8.out.1
 have k2 := cell_of_row _ q 2 _ _ _ H8.out.1
 have k3 := cell_of_row _ q 3 _ _ _ H8.out.1
 have k4 := cell_of_row _ q 4 _ _ _ H8.out.1
 simp only [zA, zB, zC] at k0 k1 k2 k3 k4
 have cb := H8.out.2.2.2.2.c0
 obtain ⟨n', hn'⟩ : ∃ n', n' = l'.length := ⟨_, rfl⟩
 rw [← hn'] at cb
 have HN9 := zI hn'
 clear hn'
 obtain ⟨r0, r1, r2, r3, r4⟩ := H8.out.2.2.1.r
 have z0 := H8.out.2.2.1.fz 0; have z1 := H8.out.2.2.1.fz 1; have z2 := H8.out.2.2.1.fz 2; have z3 := H8.out.2.2.1.fz 3; have z4 := H8.out.2.2.1.fz 4
 have HNR := zI (show (Value.slice vao rn.length vcap).ownBlock = some (w.heap.size + 1) → False from fun e => HRN.out e)
 have HNR2 := zI (yI (show q = w.heap.size + 1 → False from fun e => by have := HQ2.out.2.2.2; omega) (show G' = w.heap.size + 1 → False from fun e => by have := HGL.out; omega))
 have HNB := zI (show b = w.heap.size + 1 → False from fun e => by have := HWB.out.1; omega)
 by_cases hre : re = 0
 ·have q3 : (re == 0) = true := beq_iff_eq.2 hre
  have q4 : (re = 0) = True := eq_true hre
  have q7 : (re != 0) = false := by rw [bne, q3]; rfl
  have HE := zI hre
  clear hre
  go_wp2_with fail
  refine wp_region_held_drew (S := (fun w' => w'.cell? ⟨q, 0, none⟩ = some (.int .i64 re) ∧ w'.cell? ⟨q, 1, none⟩ = some (.string (B rp)) ∧ w'.cell? ⟨q, 2, none⟩ = some (.string (B rd)) ∧ w'.cell? ⟨q, 3, none⟩ = some (.int .i64 rv) ∧ w'.cell? ⟨q, 4, none⟩ = some (.slice vao rn.length vcap) ∧ w'.cell? ⟨b, 0, none⟩ = some (.slice (some ⟨G', 0, none⟩) n' cap'))) (by kernel_rfl) ?_ (fun hH => ?_)
  ·exact ⟨(Fp.refl Non w9).drew.cell k0 id, (Fp.refl Non w9).drew.cell k1 id, (Fp.refl Non w9).drew.cell k2 id, (Fp.refl Non w9).drew.cell k3 id, (Fp.refl Non w9).drew.cell k4 id, (Fp.refl Non w9).drew.cell cb id⟩
  have HK9 := zI (yI ((Fp.refl Non w9).drew.cell k0 id) (yI ((Fp.refl Non w9).drew.cell k1 id) (yI ((Fp.refl Non w9).drew.cell k2 id) (yI ((Fp.refl Non w9).drew.cell k3 id) (yI ((Fp.refl Non w9).drew.cell k4 id) ((Fp.refl Non w9).drew.cell cb id))))))
  have hr9 := H8.out.2.2.1.non (Fp.refl Non w9).drew
  have H9 := zI (yI H8.out.2.1.drew (yI (H8.out.2.2.2.1.grown' (Fp.refl Non w9).drew) (yI (H8.out.2.2.2.2.non (Fp.refl Non w9).drew) hr9)))
  clear r0 r1 r2 r3 r4 z0 z1 z2 z3 z4
  obtain ⟨r0, r1, r2, r3, r4⟩ := (hr9).r
  have z0 := (hr9).fz 0; have z1 := (hr9).fz 1; have z2 := (hr9).fz 2; have z3 := (hr9).fz 3; have z4 := (hr9).fz 4
  clear hr9 H8 k0 k1 k2 k3 k4 cb
  generalize w9.drew = wz at *
  refine tk 0 hH ?_
  refine tk 1 hH ?_
  refine tk 2 hH ?_
  refine tk 3 hH ?_
  refine tk 4 hH ?_
  refine tk 5 hH ?_
  refine rY 6 fun K hK => ?_
  go_simp
  have hw10 := set5 H9.out.2.2.2.res (.int .i64 re) (.string (B rp)) (.string (B rd)) (.int .i64 rv) (.slice vao rn.length vcap)
  have hf10 := fp5 (S := Non) H9.out.1 (b := w.heap.size + 1) (.inr (by omega)) (.int .i64 re) (.string (B rp)) (.string (B rd)) (.int .i64 rv) (.slice vao rn.length vcap)
  have hk10 := fp5 (S := fun k => k = w.heap.size + 1) (Fp.refl _ wz) (b := w.heap.size + 1) (.inl rfl) (.int .i64 re) (.string (B rp)) (.string (B rd)) (.int .i64 rv) (.slice vao rn.length vcap)
  have hnb : (Value.slice vao rn.length vcap).ownBlock = some (w.heap.size + 1) → False := HNR.out
  have ho10 := own5 H9.out.2.1 (b := w.heap.size + 1) hnb (.int .i64 re) (.string (B rp)) (.string (B rd)) (.int .i64 rv) (.slice vao rn.length vcap)
  have hns : Ns (((((wz.setCell ⟨w.heap.size + 1, 0, none⟩ (.int .i64 re)).setCell ⟨w.heap.size + 1, 1, none⟩ (.string (B rp))).setCell ⟨w.heap.size + 1, 2, none⟩ (.string (B rd))).setCell ⟨w.heap.size + 1, 3, none⟩ (.int .i64 rv)).setCell ⟨w.heap.size + 1, 4, none⟩ (.slice vao rn.length vcap)) (.slice (some ⟨G', 0, none⟩) n' cap') l' := by
   have h1 := (H9.out.2.2.1.row.keep hk10 (fun e => HNR2.out.2 e)).ns
   rw [← HN9.out] at h1; exact h1
  have HS := zI (yI (hk10.cell HK9.out.1 (fun e => HNR2.out.1 e)) (yI (hk10.cell HK9.out.2.1 (fun e => HNR2.out.1 e)) (yI (hk10.cell HK9.out.2.2.1 (fun e => HNR2.out.1 e)) (yI (hk10.cell HK9.out.2.2.2.1 (fun e => HNR2.out.1 e)) (yI (hk10.cell HK9.out.2.2.2.2.1 (fun e => HNR2.out.1 e)) ((hk10.cell HK9.out.2.2.2.2.2 (fun e => HNB.out e))))))))
  have H10 := zI (yI hf10 (yI ho10 hns))
  have HW10 := zI hw10
  clear hw10 hf10 hk10 hnb ho10 hns r0 r1 r2 r3 r4 z0 z1 z2 z3 z4
  refine hK.out _ _ HS.out (fun hH => ?_)
  clear hK K HS hH
  try simp only [zz]
  refine dn ?_
  generalize (((((World.setCell wz _ _).setCell _ _).setCell _ _).setCell _ _).setCell _ _) = wy at *
  have s0 := cell_of_row _ (w.heap.size + 1) 0 _ _ _ HW10.out
  have s1 := cell_of_row _ (w.heap.size + 1) 1 _ _ _ HW10.out
  have s2 := cell_of_row _ (w.heap.size + 1) 2 _ _ _ HW10.out
  have s3 := cell_of_row _ (w.heap.size + 1) 3 _ _ _ HW10.out
  have s4 := cell_of_row _ (w.heap.size + 1) 4 _ _ _ HW10.out
  simp only [zA, zB, zC] at s0 s1 s2 s3 s4
  go_wp2
  exact bodyPost_ret (v := .tuple #[.slice (some ⟨G', 0, none⟩) n' cap', .agg #[.int .i64 re, .string (B rp), .string (B rd), .int .i64 rv, .slice vao rn.length vcap]]) (by simp [results, Tryz.results52, go_sem, s0, s1, s2, s3, s4]) rfl ⟨⟨_, _, rfl, H10.out.2.2, H10.out.2.1, .inr (fun k hk => by simp [Value.ownBlock] at hk; have := HGL.out; omega)⟩, H10.out.1⟩
 have q3 : (re == 0) = false := beq_eq_false_iff_ne.2 hre
 have q4 : (re = 0) = False := eq_false hre
 have q7 : (re != 0) = true := by rw [bne, q3]; rfl
 have HE := zI (HV.out.2.2.2 hre).1
 clear hre
 go_wp2_with fail
 refine wp_region_held_drew (S := (fun w' => w'.cell? ⟨q, 0, none⟩ = some (.int .i64 re) ∧ w'.cell? ⟨q, 1, none⟩ = some (.string (B rp)) ∧ w'.cell? ⟨q, 2, none⟩ = some (.string (B rd)) ∧ w'.cell? ⟨q, 3, none⟩ = some (.int .i64 rv) ∧ w'.cell? ⟨q, 4, none⟩ = some (.slice vao rn.length vcap))) (by kernel_rfl) ?_ (fun hH => ?_)
 ·exact ⟨(Fp.refl Non w9).drew.cell k0 id, (Fp.refl Non w9).drew.cell k1 id, (Fp.refl Non w9).drew.cell k2 id, (Fp.refl Non w9).drew.cell k3 id, (Fp.refl Non w9).drew.cell k4 id⟩
 have HK9 := zI (yI ((Fp.refl Non w9).drew.cell k0 id) (yI ((Fp.refl Non w9).drew.cell k1 id) (yI ((Fp.refl Non w9).drew.cell k2 id) (yI ((Fp.refl Non w9).drew.cell k3 id) ((Fp.refl Non w9).drew.cell k4 id)))))
 have hr9 := H8.out.2.2.1.non (Fp.refl Non w9).drew
 have H9 := zI (yI H8.out.2.1.drew (yI (H8.out.2.2.2.1.grown' (Fp.refl Non w9).drew) (yI (H8.out.2.2.2.2.non (Fp.refl Non w9).drew) hr9)))
 clear r0 r1 r2 r3 r4 z0 z1 z2 z3 z4
 obtain ⟨r0, r1, r2, r3, r4⟩ := (hr9).r
 have z0 := (hr9).fz 0; have z1 := (hr9).fz 1; have z2 := (hr9).fz 2; have z3 := (hr9).fz 3; have z4 := (hr9).fz 4
 clear hr9 H8 k0 k1 k2 k3 k4 cb
 generalize w9.drew = wz at *
 refine tk 0 hH ?_
 refine tk 1 hH ?_
 refine tk 2 hH ?_
 refine rY 3 fun K hK => ?_
 go_simp
 have hw10 := set5 H9.out.2.2.2.res (.int .i64 re) (.string (B rp)) (.string (B rd)) (.int .i64 rv) (.slice vao rn.length vcap)
 have hf10 := fp5 (S := Non) H9.out.1 (b := w.heap.size + 1) (.inr (by omega)) (.int .i64 re) (.string (B rp)) (.string (B rd)) (.int .i64 rv) (.slice vao rn.length vcap)
 have hk10 := fp5 (S := fun k => k = w.heap.size + 1) (Fp.refl _ wz) (b := w.heap.size + 1) (.inl rfl) (.int .i64 re) (.string (B rp)) (.string (B rd)) (.int .i64 rv) (.slice vao rn.length vcap)
 have hnb : (Value.slice vao rn.length vcap).ownBlock = some (w.heap.size + 1) → False := HNR.out
 have ho10 := own5 H9.out.2.1 (b := w.heap.size + 1) hnb (.int .i64 re) (.string (B rp)) (.string (B rd)) (.int .i64 rv) (.slice vao rn.length vcap)
 have hns : Ns (((((wz.setCell ⟨w.heap.size + 1, 0, none⟩ (.int .i64 re)).setCell ⟨w.heap.size + 1, 1, none⟩ (.string (B rp))).setCell ⟨w.heap.size + 1, 2, none⟩ (.string (B rd))).setCell ⟨w.heap.size + 1, 3, none⟩ (.int .i64 rv)).setCell ⟨w.heap.size + 1, 4, none⟩ (.slice vao rn.length vcap)) (.slice ao n cap) l' := by rw [HE.out]; exact HV.out.1.non hf10
 have HS := zI (yI (hk10.cell HK9.out.1 (fun e => HNR2.out.1 e)) (yI (hk10.cell HK9.out.2.1 (fun e => HNR2.out.1 e)) (yI (hk10.cell HK9.out.2.2.1 (fun e => HNR2.out.1 e)) (yI (hk10.cell HK9.out.2.2.2.1 (fun e => HNR2.out.1 e)) ((hk10.cell HK9.out.2.2.2.2 (fun e => HNR2.out.1 e)))))))
 have H10 := zI (yI hf10 (yI ho10 hns))
 have HW10 := zI hw10
 clear hw10 hf10 hk10 hnb ho10 hns r0 r1 r2 r3 r4 z0 z1 z2 z3 z4
 refine hK.out _ _ HS.out (fun hH => ?_)
 clear hK K HS hH
 try simp only [zz]
 refine dn ?_
 generalize (((((World.setCell wz _ _).setCell _ _).setCell _ _).setCell _ _).setCell _ _) = wy at *
 have s0 := cell_of_row _ (w.heap.size + 1) 0 _ _ _ HW10.out
 have s1 := cell_of_row _ (w.heap.size + 1) 1 _ _ _ HW10.out
 have s2 := cell_of_row _ (w.heap.size + 1) 2 _ _ _ HW10.out
 have s3 := cell_of_row _ (w.heap.size + 1) 3 _ _ _ HW10.out
 have s4 := cell_of_row _ (w.heap.size + 1) 4 _ _ _ HW10.out
 simp only [zA, zB, zC] at s0 s1 s2 s3 s4
 go_wp2
 exact bodyPost_ret (v := .tuple #[.slice ao n cap, .agg #[.int .i64 re, .string (B rp), .string (B rd), .int .i64 rv, .slice vao rn.length vcap]]) (by simp [results, Tryz.results52, go_sem, s0, s1, s2, s3, s4]) rfl ⟨⟨_, _, rfl, H10.out.2.2, H10.out.2.1, .inl rfl⟩, H10.out.1⟩
set_option maxHeartbeats 4000000 in
theorem Apply_f (v : Value) (l : List Nd) (o : Opn) (w : World) (hv : Ns w v l) (hs : Sp l) (hp : o.path.length ≤ 1000000) (ht : Tab w) :
  Calls Tryz.prog 52 #[v, opV o] w (ApS w v (apply l o).1 (apply l o).2) := by
 by_cases hrm : right l = true ∧ may o = true
 ·rw [apply_yes ((right_iff l).1 hrm.1).tr hrm.2]
  obtain ⟨kk, p, d, vv, ow, t⟩ := o
  exact Apply_go v l kk p d vv ow t w hv hs hrm.1 hrm.2 ht
 rw [apply_no hrm]
 have hrc := fun w1 (f : Fp Non w w1) => nRight_c v l w1 (hv.non f) hs
 have hmc := fun w1 => May_c o w1 hp
 obtain ⟨ao, cap, rfl⟩ := hv.shape
 obtain ⟨kk, p, d, vv, ow, t⟩ := o
 obtain ⟨br, hbr⟩ : ∃ br, right l = br := ⟨_, rfl⟩
 obtain ⟨bm, hbm⟩ : ∃ bm, may ⟨kk, p, d, vv, ow, t⟩ = bm := ⟨_, rfl⟩
 rw [hbr] at hrc
 rw [hbm] at hmc
 rw [hbr, hbm] at hrm
 generalize l.length = n at *
 unfold opV strV at hmc ⊢
 simp only at hmc ⊢
 have hbx := Bx.made w kk p d vv ow t
 have hf0 : Fp Non w ((w.alloc (.cells #[.int .i64 kk, .string (B p), .string (B d), .int .i64 vv, .int .i64 ow, .bool t] TO_)).alloc (.cells #[.int .i64 0, .string ⟨#[]⟩, .string ⟨#[]⟩, .int .i64 0, .slice none 0 0] TR)) := ((Fp.refl Non w).alloc _).alloc _
 have HX := zI (yI hbx hf0)
 have HA := zI (yI hrc hmc)
 clear hbx hf0 hs ht hrc hmc hv hp hbr hbm
 cases br with
 | false =>
  clear hrm
  go_enter Tryz.func52, Tryz.ntmps52
  generalize hW0 : ((w.alloc (.cells #[.int .i64 kk, .string (B p), .string (B d), .int .i64 vv, .int .i64 ow, .bool t] TO_)).alloc (.cells #[.int .i64 0, .string ⟨#[]⟩, .string ⟨#[]⟩, .int .i64 0, .slice none 0 0] TR)) = W0 at *
  go_wp2_with fail
  clear hW0
  refine (HA.out.1 _ HX.out.2).mono ?_
  rintro e w1 ⟨rfl, hf1⟩
  have F1 := zI (yI (HX.out.2.then hf1) hf1)
  clear hf1
  go_wp2_with fail
  refine (refused_c 1 _).mono ?_
  rintro e w9 ⟨rfl, hf9⟩
  have hb9 := HX.out.1.non (F1.out.2.then hf9)
  have HF9 := zI (F1.out.1.then hf9)
  obtain ⟨r0, r1, r2, r3, r4⟩ := (hb9).r
  have z0 := (hb9).fz 0; have z1 := (hb9).fz 1; have z2 := (hb9).fz 2; have z3 := (hb9).fz 3; have z4 := (hb9).fz 4
  have HE := zI hb9.res
  clear hf9 hb9
  unfold badV
  generalize w9 = W9 at *
  go_wp2
  have hw9 := set5 HE.out (.int .i64 1) (.string ⟨#[]⟩) (.string ⟨#[]⟩) (.int .i64 0) (.slice none 0 0)
  have hfz := fp5 (S := Non) HF9.out (b := w.heap.size + 1) (.inr (by omega)) (.int .i64 1) (.string ⟨#[]⟩) (.string ⟨#[]⟩) (.int .i64 0) (.slice none 0 0)
  generalize (((((World.setCell W9 _ _).setCell _ _).setCell _ _).setCell _ _).setCell _ _) = wz at *
  obtain ⟨s0, s1, s2, s3, s4⟩ := b5 hw9
  exact bodyPost_ret (v := .tuple #[.slice none 0 0, .agg #[.int .i64 1, .string ⟨#[]⟩, .string ⟨#[]⟩, .int .i64 0, .slice none 0 0]]) (by simp [results, Tryz.results52, go_sem, s0, s1, s2, s3, s4]) rfl ⟨⟨_, _, rfl, Ns.nil _, Own.nil _ _, .inr (fun k hk => by simp [Value.ownBlock] at hk)⟩, hfz⟩
 | true => ?_
 obtain rfl : bm = false := by
  cases bm with
  | false => rfl
  | true => exact absurd ⟨rfl, rfl⟩ hrm
 clear hrm
 go_enter Tryz.func52, Tryz.ntmps52
 generalize hW0 : ((w.alloc (.cells #[.int .i64 kk, .string (B p), .string (B d), .int .i64 vv, .int .i64 ow, .bool t] TO_)).alloc (.cells #[.int .i64 0, .string ⟨#[]⟩, .string ⟨#[]⟩, .int .i64 0, .slice none 0 0] TR)) = W0 at *
 go_wp2_with fail
 clear hW0
 refine (HA.out.1 _ HX.out.2).mono ?_
 rintro e w1 ⟨rfl, hf1⟩
 have F1 := zI (yI (HX.out.2.then hf1) hf1)
 obtain ⟨o0, o1, o2, o3, o4, o5⟩ := box6 (hf1.heap HX.out.1.op id)
 clear hf1
 go_wp2_with fail
 refine (HA.out.2 _).mono ?_
 rintro e w2 ⟨rfl, hf2⟩
 have F2 := zI (yI (F1.out.1.then hf2) (F1.out.2.then hf2))
 clear hf2 F1 o0 o1 o2 o3 o4 o5
 go_wp2_with fail
 refine (refused_c 1 _).mono ?_
 rintro e w9 ⟨rfl, hf9⟩
 have hb9 := HX.out.1.non (F2.out.2.then hf9)
 have HF9 := zI (F2.out.1.then hf9)
 obtain ⟨r0, r1, r2, r3, r4⟩ := (hb9).r
 have z0 := (hb9).fz 0; have z1 := (hb9).fz 1; have z2 := (hb9).fz 2; have z3 := (hb9).fz 3; have z4 := (hb9).fz 4
 have HE := zI hb9.res
 clear hf9 hb9
 unfold badV
 generalize w9 = W9 at *
 go_wp2
 have hw9 := set5 HE.out (.int .i64 1) (.string ⟨#[]⟩) (.string ⟨#[]⟩) (.int .i64 0) (.slice none 0 0)
 have hfz := fp5 (S := Non) HF9.out (b := w.heap.size + 1) (.inr (by omega)) (.int .i64 1) (.string ⟨#[]⟩) (.string ⟨#[]⟩) (.int .i64 0) (.slice none 0 0)
 generalize (((((World.setCell W9 _ _).setCell _ _).setCell _ _).setCell _ _).setCell _ _) = wz at *
 obtain ⟨s0, s1, s2, s3, s4⟩ := b5 hw9
 exact bodyPost_ret (v := .tuple #[.slice none 0 0, .agg #[.int .i64 1, .string ⟨#[]⟩, .string ⟨#[]⟩, .int .i64 0, .slice none 0 0]]) (by simp [results, Tryz.results52, go_sem, s0, s1, s2, s3, s4]) rfl ⟨⟨_, _, rfl, Ns.nil _, Own.nil _ _, .inr (fun k hk => by simp [Value.ownBlock] at hk)⟩, hfz⟩
end Go.Proofs.YtphoglepiegeiaaGreatDoor
