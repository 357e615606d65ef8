/- A text of this proof. -/
import Derived.Test.YtphoglepiegeiaaGreatDoorZAU
import Derived.Test.YtphoglepiegeiaaGreatDoorZAV
namespace Go.Proofs.YtphoglepiegeiaaGreatDoor
set_option linter.unusedSimpArgs false
set_option linter.unusedVariables false
set_option maxRecDepth 20000
set_option linter.unusedVariables false
set_option linter.unusedSimpArgs false
open Go.RowKit Pm
theorem partsOf_le (o : Opn) : (partsOf o).length ≤ 2 := by
 unfold partsOf
 repeat' split
 all_goals simp
set_option maxHeartbeats 16000000 in
theorem PartDirs_c (o : Opn) (p : Bs) (w : World) (ht : Tab w) :
  Calls Tryz.prog 8 #[opV o, .string (B p)] w fun e w' => e = .returned (.bool true) ∧ Fp Non w w' := by
 have hgo := fun W => GreatOp_c o W
 have hof := fun W (h : o.path.length ≤ 3000) => Of_c o W (by omega)
 have hma := fun W (h : o.path.length ≤ 3000) => May_c o W (by omega)
 have hpm := partsOf_may o
 have hlen := partsOf_len o
 have hle2 := partsOf_le o
 obtain ⟨ps, hps⟩ : ∃ ps, partsOf o = ps := ⟨_, rfl⟩
 obtain ⟨mo, hmo⟩ : ∃ mo, may o = mo := ⟨_, rfl⟩
 rw [hps] at hof hpm hlen hle2
 rw [hmo] at hma hlen
 obtain ⟨kk, op, d, vv, ow, t⟩ := o
 unfold opV strV at *
 simp only at *
 have hbx := heap_alloc_new w (.cells #[.int .i64 kk, .string (B op), .string (B d), .int .i64 vv, .int .i64 ow, .bool t] TO_)
 have hf0 := fp_alloc w (.cells #[.int .i64 kk, .string (B op), .string (B d), .int .i64 vv, .int .i64 ow, .bool t] TO_)
 have K0 := Lib.hid (Kp.and (Kp.fp hf0) (Kp.and (Kp.row hbx) (Kp.tab (ht.non hf0))))
 have HP := Lib.hid (And.intro hgo (And.intro hof (And.intro hma (And.intro hpm hlen))))
 clear hgo hof hma hpm hlen hps hmo hbx hf0 ht
 go_enter Tryz.func8, Tryz.ntmps8
 go_wp2_with fail
 refine (head7_c _ K0.out.now.2.2).mono ?_
 rintro e w1 ⟨rfl, hf⟩
 have K1 := Lib.hid (K0.out.later hf)
 clear hf K0
 obtain ⟨o0, o1, o2, o3, o4, o5⟩ := box6 K1.out.now.2.1
 go_wp2_with fail
 refine (HP.out.1 _).mono ?_
 rintro e w2 ⟨g, rfl, hg, hf⟩
 have K2 := Lib.hid (K1.out.later hf)
 have HG := Lib.hid hg
 clear hf hg K1 o0 o1 o2 o3 o4 o5
 obtain ⟨o0, o1, o2, o3, o4, o5⟩ := box6 K2.out.now.2.1
 cases g with
 | true =>
  go_wp2
  go_ret
  exact ⟨rfl, K2.out.now.1⟩
 | false =>
  have hol := (HG.out (by first | rfl | trivial)).1
  have HO := Lib.hid hol
  clear hol HG
  by_cases hlong : 1000 < p.length
  ·have qa : (1000 < p.length) = True := eq_true hlong
   have qb : ((1000 : Int) < (p.length : Int)) = True := eq_true (by omega)
   clear hlong
   go_wp2
   go_ret
   exact ⟨rfl, K2.out.now.1⟩
  have qa : (1000 < p.length) = False := eq_false hlong
  have qb : ((1000 : Int) < (p.length : Int)) = False := eq_false (by omega)
  clear hlong
  go_wp2_with fail
  refine (HP.out.2.1 _ HO.out).mono ?_
  rintro e w3 ⟨⟨v3, rfl, hl⟩, hf⟩
  have K3 := Lib.hid (Kp.and (Kp.sg hl) (K2.out.later hf))
  obtain ⟨ao, cap, hsh⟩ := hl.shape
  subst hsh
  obtain ⟨n, hn⟩ : ∃ n, n = ps.length := ⟨_, rfl⟩
  have HN := Lib.hid hn
  have hnb : n ≤ 2 := by omega
  rw [← hn] at K3 ⊢
  clear hf hl hn hle2 o0 o1 o2 o3 o4 o5 K2
  obtain ⟨o0, o1, o2, o3, o4, o5⟩ := box6 K3.out.now.2.2.1
  have q1 : (decide (0 < n) == mo) = true := by rw [← HP.out.2.2.2.2, HN.out]; simp
  have HQ := Lib.hid q1
  clear q1
  go_wp2_with fail
  refine (HP.out.2.2.1 _ HO.out).mono ?_
  rintro e w4 ⟨rfl, hf⟩
  have K4 := Lib.hid (K3.out.later hf)
  clear hf o0 o1 o2 o3 o4 o5 K3
  have hq := HQ.out
  go_wp2_with fail
  have HW4 := Lib.hid (Kp.and (Kp.sg K4.out.now.1) (Kp.fp K4.out.now.2.1))
  clear hq K4
  go_loopw [7] (fun i wr => ∃ k : Nat, k ≤ n ∧ i = .int .i64 k ∧ Hid (Fp Non w wr ∧ Sg ptC 7 wr (.slice ao n cap) ps)) (fun i _ => n - (RowKit.intOf i).toNat)
  case atStart => exact ⟨0, Nat.zero_le _, rfl, HW4.out.now.2, HW4.out.now.1⟩
  case round =>
   clear HW4
   obtain ⟨k, hk, rfl, hR⟩ := hrel
   rename_i wr _
   have hFW := hR.out.1
   have hSG := hR.out.2
   clear hR
   by_cases hlt : k < n
   ·have hkl : k < ps.length := by rw [← HN.out]; exact hlt
    obtain ⟨g, og, cap', e9, hcell⟩ := hSG.at (by omega)
    injection e9 with e1 e2 e3
    subst e1 e3
    clear e2
    have hel := hcell k hkl
    have hmay := HP.out.2.2.2.1 _ (List.getElem_mem hkl)
    obtain ⟨x, hx⟩ : ∃ x, ps[k] = x := ⟨_, rfl⟩
    rw [hx] at hel hmay
    have hm1 := fun W => mayP_c x W (by have := hmay.2.2; omega)
    rw [hmay.1] at hm1
    obtain ⟨bm, hbm⟩ : ∃ bm, mayP { x with dir := p } = bm := ⟨_, rfl⟩
    have hm2 := fun W => mayP_c { x with dir := p } W (by have := hmay.2.2; simp only; omega)
    rw [hbm] at hm2
    have hdd : bm = true → p = x.dir := fun h => mayP_dir hmay.1 p (by rw [hbm, h])
    have hho := fun W => rHome_c x.path W (by have := hmay.2.2; omega)
    have hways := hmay.2.1
    have HEL := Lib.hid hel
    obtain ⟨xk, xd, xp, xa, xv, xo, xt⟩ := x
    have c0 := hel.get 0 _ rfl
    have c1 := hel.get 1 _ rfl
    have c2 := hel.get 2 _ rfl
    have c3 := hel.get 3 _ rfl
    have c4 := hel.get 4 _ rfl
    have c5 := hel.get 5 _ rfl
    have c6 := hel.get 6 _ rfl
    rw [Nat.add_zero] at c0
    unfold ptV strV at hm1 hm2
    unfold strV at c1 c2 c3
    simp only at c0 c1 c2 c3 c4 c5 c6 hm1 hm2 hdd hho hways
    have HM := Lib.hid (And.intro hm1 (And.intro hm2 hho))
    have HDD := Lib.hid hdd
    have HL := Lib.hid hlt
    have HFW := Lib.hid hFW
    have HSG := Lib.hid hSG
    have q3 : ((k : Int) < (n : Int)) = True := eq_true (by omega)
    have q4 : (k < n) = True := eq_true hlt
    have hfx := fp_alloc wr (.cells #[.int .i64 xk, .string (B xd), .string (B xp), .string (B xa), .int .i64 xv, .int .i64 xo, .bool xt] TP)
    have hrx := heap_alloc_new wr (.cells #[.int .i64 xk, .string (B xd), .string (B xp), .string (B xa), .int .i64 xv, .int .i64 xo, .bool xt] TP)
    have HF := Lib.hid (hfx.then (Fp.refl Non _).drew)
    have HB := Lib.hid ((Fp.refl Non (wr.alloc (.cells #[.int .i64 xk, .string (B xd), .string (B xp), .string (B xa), .int .i64 xv, .int .i64 xo, .bool xt] TP))).drew.heap hrx (fun h => h))
    clear hcell hel hmay hx hkl hm1 hm2 hbm hdd hho hlt hFW hSG hfx hrx
    by_cases hsame : xd = xp
    ·have qs : (xd == xp) = true := beq_iff_eq.2 hsame
     have qs2 : (xd != xp) = false := by simp [hsame]
     have qs3 : (xd = xp) = True := eq_true hsame
     clear hways hsame
     go_wp2_with fail
     refine wp_region_held_drew (S := (fun w' => w'.cell? ⟨wr.heap.size, 0, none⟩ = some (.int .i64 xk) ∧ w'.cell? ⟨wr.heap.size, 1, none⟩ = some (.string (B xd)) ∧ w'.cell? ⟨wr.heap.size, 2, none⟩ = some (.string (B xp)) ∧ w'.cell? ⟨wr.heap.size, 3, none⟩ = some (.string (B xa)) ∧ w'.cell? ⟨wr.heap.size, 4, none⟩ = some (.int .i64 xv) ∧ w'.cell? ⟨wr.heap.size, 5, none⟩ = some (.int .i64 xo) ∧ w'.cell? ⟨wr.heap.size, 6, none⟩ = some (.bool xt))) (by kernel_rfl) ?_ (fun hHeld => ?_)
     ·exact boxP7 HB.out
     generalize (wr.alloc (.cells #[.int .i64 xk, .string (B xd), .string (B xp), .string (B xa), .int .i64 xv, .int .i64 xo, .bool xt] TP)).drew = u0 at *
     refine tk 0 (v := ?_) hHeld (fun w hSw => ?_) ?_; rotate_left
     ·(try dsimp only at hSw); obtain ⟨s0, s1, s2, s3, s4, s5, s6⟩ := hSw; go_simp; try with_reducible rfl
     try simp only [zP, zN, zS, zT, zU]
     refine wpAnyH_ready (rs := [1]) (by kernel_rfl) (by simp) ?_
     refine AllReadyH.cons (o := ?_) (by simp only [zA, zB, zC] <;> exact rfl) (fun K hK => ?_) AllReadyH.nil
     go_simp
     go_at_call 21
     refine (HM.out.1 _).mono ?_
     rintro e u1 ⟨rfl, hf⟩
     have F1 := Lib.hid (HF.out.then hf)
     have HB1 := Lib.hid (hf.heap HB.out (fun h => h))
     clear hf
     go_wp2_with fail
     refine hK.out _ _ (boxP7 HB1.out) (fun hHeld => ?_)
     clear hK K
     try simp only [zP, zN, zS, zT, zU]
     refine tk 2 (v := ?_) hHeld (fun w hSw => ?_) ?_; rotate_left
     ·(try dsimp only at hSw); obtain ⟨s0, s1, s2, s3, s4, s5, s6⟩ := hSw; go_simp; try with_reducible rfl
     try simp only [zP, zN, zS, zT, zU]
     refine tk 3 (v := ?_) hHeld (fun w hSw => ?_) ?_; rotate_left
     ·(try dsimp only at hSw); obtain ⟨s0, s1, s2, s3, s4, s5, s6⟩ := hSw; go_simp; try with_reducible rfl
     try simp only [zP, zN, zS, zT, zU]
     refine tk 4 (v := ?_) hHeld (fun w hSw => ?_) ?_; rotate_left
     ·(try dsimp only at hSw); obtain ⟨s0, s1, s2, s3, s4, s5, s6⟩ := hSw; go_simp; try with_reducible rfl
     try simp only [zP, zN, zS, zT, zU]
     refine tk 5 (v := ?_) hHeld (fun w hSw => ?_) ?_; rotate_left
     ·(try dsimp only at hSw); obtain ⟨s0, s1, s2, s3, s4, s5, s6⟩ := hSw; go_simp; try with_reducible rfl
     try simp only [zP, zN, zS, zT, zU]
     refine tk 6 (v := ?_) hHeld (fun w hSw => ?_) ?_; rotate_left
     ·(try dsimp only at hSw); obtain ⟨s0, s1, s2, s3, s4, s5, s6⟩ := hSw; go_simp; try with_reducible rfl
     try simp only [zP, zN, zS, zT, zU]
     refine tk 7 (v := ?_) hHeld (fun w hSw => ?_) ?_; rotate_left
     ·(try dsimp only at hSw); obtain ⟨s0, s1, s2, s3, s4, s5, s6⟩ := hSw; go_simp; try with_reducible rfl
     try simp only [zP, zN, zS, zT, zU]
     refine tk 8 (v := ?_) hHeld (fun w hSw => ?_) ?_; rotate_left
     ·(try dsimp only at hSw); obtain ⟨s0, s1, s2, s3, s4, s5, s6⟩ := hSw; go_simp; try with_reducible rfl
     try simp only [zP, zN, zS, zT, zU]
     refine tk 9 (v := ?_) hHeld (fun w hSw => ?_) ?_; rotate_left
     ·(try dsimp only at hSw); obtain ⟨s0, s1, s2, s3, s4, s5, s6⟩ := hSw; go_simp; try with_reducible rfl
     try simp only [zP, zN, zS, zT, zU]
     refine sk 10 hHeld ?_
     try simp only [zP, zN, zS, zT, zU]
     refine sk 11 hHeld ?_
     try simp only [zP, zN, zS, zT, zU]
     refine sk 12 hHeld ?_
     try simp only [zP, zN, zS, zT, zU]
     refine sk 13 hHeld ?_
     try simp only [zP, zN, zS, zT, zU]
     refine sk 14 hHeld ?_
     try simp only [zP, zN, zS, zT, zU]
     refine sk 15 hHeld ?_
     try simp only [zP, zN, zS, zT, zU]
     refine tk 16 (v := ?_) hHeld (fun w hSw => ?_) ?_; rotate_left
     ·(try dsimp only at hSw); obtain ⟨s0, s1, s2, s3, s4, s5, s6⟩ := hSw; go_simp; try with_reducible rfl
     try simp only [zP, zN, zS, zT, zU]
     refine tk 17 (v := ?_) hHeld (fun w hSw => ?_) ?_; rotate_left
     ·(try dsimp only at hSw); obtain ⟨s0, s1, s2, s3, s4, s5, s6⟩ := hSw; go_simp; try with_reducible rfl
     try simp only [zP, zN, zS, zT, zU]
     refine wpAnyH_done (by kernel_rfl) ?_ _
     obtain ⟨u2, hu2⟩ : ∃ u2, u2 = u1 := ⟨_, rfl⟩
     rw [← hu2] at F1 HB1 ⊢
     have HB2 := HB1
     have F2 := F1
     clear hu2
     obtain ⟨y0, y1, y2, y3, y4, y5, y6⟩ := boxP7 HB2.out
     have z1 := frozen_at HB2.out 1
     have hr3 := heap_setCell_same u2 wr.heap.size 1 _ TP (.string (B p)) HB2.out
     have hf3 : Fp (fun j => j = wr.heap.size) u2 (u2.setCell ⟨wr.heap.size, 1, none⟩ (.string (B p))) := (Fp.refl (fun j => j = wr.heap.size) u2).setCell (p := ⟨wr.heap.size, 1, none⟩) (.inl rfl) _
     have F3 := Lib.hid (F2.out.trans hf3 (fun j hj => .inr (by have hj : j = wr.heap.size := hj; omega)))
     have HB3 := Lib.hid hr3
     clear hr3 hf3
     go_upto_region 14 with (fail)
     clear y0 y1 y2 y3 y4 y5 y6 z1
     generalize (World.setCell u2 _ _) = u3 at *
     obtain ⟨y0, y1, y2, y3, y4, y5, y6⟩ := boxP7 HB3.out
     go_wp2_with fail
     refine (HM.out.2.1 _).mono ?_
     rintro e u4 ⟨rfl, hf⟩
     have F4 := Lib.hid (F3.out.then hf)
     have HE := Lib.hid ((HEL.out.keep F4.out (fun h => h)).get 1 _ rfl)
     clear hf y0 y1 y2 y3 y4 y5 y6
     have hM : Hid (Fp Non w u4 ∧ Sg ptC 7 u4 (.slice (some ⟨g, og, none⟩) n cap) ps) := ⟨HFW.out.then F4.out, HSG.out.non F4.out⟩
     have hj := HL.out
     cases bm with
     | false =>
      go_wp2
      go_roundw
      case rel => exact ⟨k + 1, by omega, by go_num, hM⟩
      case measure => simp [RowKit.intOf]; omega
     | true =>
      have he := HE.out
      unfold strV at he
      simp only at he
      rw [← HDD.out rfl] at he
      go_wp2
      go_roundw
      case rel => exact ⟨k + 1, by omega, by go_num, hM⟩
      case measure => simp [RowKit.intOf]; omega
    ·have hup : xd = upB xp := by rcases hways with h | h; exact absurd h hsame; exact h
     have qs : (xd == xp) = false := beq_eq_false_iff_ne.2 hsame
     have qs2 : (xd != xp) = true := by simpa using hsame
     have qs3 : (xd = xp) = False := eq_false hsame
     have qu : (xd == upB xp) = true := beq_iff_eq.2 hup
     have qu2 : (xd != upB xp) = false := by simp [← hup]
     have qu3 : (xd = upB xp) = True := eq_true hup
     clear hways hsame hup
     go_wp2_with fail
     refine wp_region_held_drew (S := (fun w' => w'.cell? ⟨wr.heap.size, 0, none⟩ = some (.int .i64 xk) ∧ w'.cell? ⟨wr.heap.size, 1, none⟩ = some (.string (B xd)) ∧ w'.cell? ⟨wr.heap.size, 2, none⟩ = some (.string (B xp)) ∧ w'.cell? ⟨wr.heap.size, 3, none⟩ = some (.string (B xa)) ∧ w'.cell? ⟨wr.heap.size, 4, none⟩ = some (.int .i64 xv) ∧ w'.cell? ⟨wr.heap.size, 5, none⟩ = some (.int .i64 xo) ∧ w'.cell? ⟨wr.heap.size, 6, none⟩ = some (.bool xt))) (by kernel_rfl) ?_ (fun hHeld => ?_)
     ·exact boxP7 HB.out
     generalize (wr.alloc (.cells #[.int .i64 xk, .string (B xd), .string (B xp), .string (B xa), .int .i64 xv, .int .i64 xo, .bool xt] TP)).drew = u0 at *
     refine tk 0 (v := ?_) hHeld (fun w hSw => ?_) ?_; rotate_left
     ·(try dsimp only at hSw); obtain ⟨s0, s1, s2, s3, s4, s5, s6⟩ := hSw; go_simp; try with_reducible rfl
     try simp only [zP, zN, zS, zT, zU]
     refine wpAnyH_ready (rs := [1]) (by kernel_rfl) (by simp) ?_
     refine AllReadyH.cons (o := ?_) (by simp only [zA, zB, zC] <;> exact rfl) (fun K hK => ?_) AllReadyH.nil
     go_simp
     go_at_call 21
     refine (HM.out.1 _).mono ?_
     rintro e u1 ⟨rfl, hf⟩
     have F1 := Lib.hid (HF.out.then hf)
     have HB1 := Lib.hid (hf.heap HB.out (fun h => h))
     clear hf
     go_wp2_with fail
     refine hK.out _ _ (boxP7 HB1.out) (fun hHeld => ?_)
     clear hK K
     try simp only [zP, zN, zS, zT, zU]
     refine tk 2 (v := ?_) hHeld (fun w hSw => ?_) ?_; rotate_left
     ·(try dsimp only at hSw); obtain ⟨s0, s1, s2, s3, s4, s5, s6⟩ := hSw; go_simp; try with_reducible rfl
     try simp only [zP, zN, zS, zT, zU]
     refine tk 3 (v := ?_) hHeld (fun w hSw => ?_) ?_; rotate_left
     ·(try dsimp only at hSw); obtain ⟨s0, s1, s2, s3, s4, s5, s6⟩ := hSw; go_simp; try with_reducible rfl
     try simp only [zP, zN, zS, zT, zU]
     refine tk 4 (v := ?_) hHeld (fun w hSw => ?_) ?_; rotate_left
     ·(try dsimp only at hSw); obtain ⟨s0, s1, s2, s3, s4, s5, s6⟩ := hSw; go_simp; try with_reducible rfl
     try simp only [zP, zN, zS, zT, zU]
     refine tk 5 (v := ?_) hHeld (fun w hSw => ?_) ?_; rotate_left
     ·(try dsimp only at hSw); obtain ⟨s0, s1, s2, s3, s4, s5, s6⟩ := hSw; go_simp; try with_reducible rfl
     try simp only [zP, zN, zS, zT, zU]
     refine tk 6 (v := ?_) hHeld (fun w hSw => ?_) ?_; rotate_left
     ·(try dsimp only at hSw); obtain ⟨s0, s1, s2, s3, s4, s5, s6⟩ := hSw; go_simp; try with_reducible rfl
     try simp only [zP, zN, zS, zT, zU]
     refine tk 7 (v := ?_) hHeld (fun w hSw => ?_) ?_; rotate_left
     ·(try dsimp only at hSw); obtain ⟨s0, s1, s2, s3, s4, s5, s6⟩ := hSw; go_simp; try with_reducible rfl
     try simp only [zP, zN, zS, zT, zU]
     refine tk 8 (v := ?_) hHeld (fun w hSw => ?_) ?_; rotate_left
     ·(try dsimp only at hSw); obtain ⟨s0, s1, s2, s3, s4, s5, s6⟩ := hSw; go_simp; try with_reducible rfl
     try simp only [zP, zN, zS, zT, zU]
     refine tk 9 (v := ?_) hHeld (fun w hSw => ?_) ?_; rotate_left
     ·(try dsimp only at hSw); obtain ⟨s0, s1, s2, s3, s4, s5, s6⟩ := hSw; go_simp; try with_reducible rfl
     try simp only [zP, zN, zS, zT, zU]
     refine tk 10 (v := ?_) hHeld (fun w hSw => ?_) ?_; rotate_left
     ·(try dsimp only at hSw); obtain ⟨s0, s1, s2, s3, s4, s5, s6⟩ := hSw; go_simp; try with_reducible rfl
     try simp only [zP, zN, zS, zT, zU]
     refine tk 11 (v := ?_) hHeld (fun w hSw => ?_) ?_; rotate_left
     ·(try dsimp only at hSw); obtain ⟨s0, s1, s2, s3, s4, s5, s6⟩ := hSw; go_simp; try with_reducible rfl
     try simp only [zP, zN, zS, zT, zU]
     refine tk 12 (v := ?_) hHeld (fun w hSw => ?_) ?_; rotate_left
     ·(try dsimp only at hSw); obtain ⟨s0, s1, s2, s3, s4, s5, s6⟩ := hSw; go_simp; try with_reducible rfl
     try simp only [zP, zN, zS, zT, zU]
     refine tk 13 (v := ?_) hHeld (fun w hSw => ?_) ?_; rotate_left
     ·(try dsimp only at hSw); obtain ⟨s0, s1, s2, s3, s4, s5, s6⟩ := hSw; go_simp; try with_reducible rfl
     try simp only [zP, zN, zS, zT, zU]
     refine wpAnyH_ready (rs := [14]) (by kernel_rfl) (by simp) ?_
     refine AllReadyH.cons (o := ?_) (by simp only [zA, zB, zC] <;> exact rfl) (fun K hK => ?_) AllReadyH.nil
     go_simp
     go_at_call 36
     refine (HM.out.2.2 _).mono ?_
     rintro e u2 ⟨rfl, hf⟩
     have F2 := Lib.hid (F1.out.then hf)
     have HB2 := Lib.hid (hf.heap HB1.out (fun h => h))
     clear hf
     go_wp2_with fail
     refine hK.out _ _ (boxP7 HB2.out) (fun hHeld => ?_)
     clear hK K
     try simp only [zP, zN, zS, zT, zU]
     refine tk 15 (v := ?_) hHeld (fun w hSw => ?_) ?_; rotate_left
     ·(try dsimp only at hSw); obtain ⟨s0, s1, s2, s3, s4, s5, s6⟩ := hSw; go_simp; try with_reducible rfl
     try simp only [zP, zN, zS, zT, zU]
     refine tk 16 (v := ?_) hHeld (fun w hSw => ?_) ?_; rotate_left
     ·(try dsimp only at hSw); obtain ⟨s0, s1, s2, s3, s4, s5, s6⟩ := hSw; go_simp; try with_reducible rfl
     try simp only [zP, zN, zS, zT, zU]
     refine tk 17 (v := ?_) hHeld (fun w hSw => ?_) ?_; rotate_left
     ·(try dsimp only at hSw); obtain ⟨s0, s1, s2, s3, s4, s5, s6⟩ := hSw; go_simp; try with_reducible rfl
     try simp only [zP, zN, zS, zT, zU]
     refine wpAnyH_done (by kernel_rfl) ?_ _
     obtain ⟨y0, y1, y2, y3, y4, y5, y6⟩ := boxP7 HB2.out
     have z1 := frozen_at HB2.out 1
     have hr3 := heap_setCell_same u2 wr.heap.size 1 _ TP (.string (B p)) HB2.out
     have hf3 : Fp (fun j => j = wr.heap.size) u2 (u2.setCell ⟨wr.heap.size, 1, none⟩ (.string (B p))) := (Fp.refl (fun j => j = wr.heap.size) u2).setCell (p := ⟨wr.heap.size, 1, none⟩) (.inl rfl) _
     have F3 := Lib.hid (F2.out.trans hf3 (fun j hj => .inr (by have hj : j = wr.heap.size := hj; omega)))
     have HB3 := Lib.hid hr3
     clear hr3 hf3
     go_upto_region 14 with (fail)
     clear y0 y1 y2 y3 y4 y5 y6 z1
     generalize (World.setCell u2 _ _) = u3 at *
     obtain ⟨y0, y1, y2, y3, y4, y5, y6⟩ := boxP7 HB3.out
     go_wp2_with fail
     refine (HM.out.2.1 _).mono ?_
     rintro e u4 ⟨rfl, hf⟩
     have F4 := Lib.hid (F3.out.then hf)
     have HE := Lib.hid ((HEL.out.keep F4.out (fun h => h)).get 1 _ rfl)
     clear hf y0 y1 y2 y3 y4 y5 y6
     have hM : Hid (Fp Non w u4 ∧ Sg ptC 7 u4 (.slice (some ⟨g, og, none⟩) n cap) ps) := ⟨HFW.out.then F4.out, HSG.out.non F4.out⟩
     have hj := HL.out
     cases bm with
     | false =>
      go_wp2
      go_roundw
      case rel => exact ⟨k + 1, by omega, by go_num, hM⟩
      case measure => simp [RowKit.intOf]; omega
     | true =>
      have he := HE.out
      unfold strV at he
      simp only at he
      rw [← HDD.out rfl] at he
      go_wp2
      go_roundw
      case rel => exact ⟨k + 1, by omega, by go_num, hM⟩
      case measure => simp [RowKit.intOf]; omega
   ·have hke : k = n := by omega
    subst hke
    have q3 : ((k : Int) < (k : Int)) = False := eq_false (by omega)
    have HF := Lib.hid hFW
    clear hlt hk hFW hSG
    go_wp2
    go_ret
    exact ⟨rfl, HF.out⟩
end Go.Proofs.YtphoglepiegeiaaGreatDoor
