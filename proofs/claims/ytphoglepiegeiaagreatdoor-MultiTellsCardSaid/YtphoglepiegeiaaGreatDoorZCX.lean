/- A text of this proof. -/
import Derived.Test.YtphoglepiegeiaaGreatDoorZCC
import Derived.Test.YtphoglepiegeiaaGreatDoorZCF
import Derived.Test.YtphoglepiegeiaaGreatDoorZCG
import Derived.Test.YtphoglepiegeiaaGreatDoorZCW
set_option linter.unusedSimpArgs false
set_option linter.unusedVariables false
namespace Go.Proofs.YtphoglepiegeiaaGreatDoor
set_option maxRecDepth 20000
open Go.RowKit Pm
structure RrM (l : List Nd) (w : World) (k : Nat) (wr : World) : Prop where
 fp : Fp Non w wr
 fit : ∀ j (h : j < l.length), j < k → fitsB l[j] = true
 up : ∀ j (h : j + 1 < l.length), j + 1 < k → lt l[j].path l[j+1].path = true
 lie : ∀ j (h : j < l.length), j < k → 0 < j → lies l l[j] = true
theorem lies_tell {l : List Nd} {x y : Nd} {p : Bs} {is th : Bool} (hp : (parent x.path).getD [] = p) (hi : (parent x.path).isSome = is) (hth : (find l p).isSome = th) (hy : (find l p).getD zeroNd = y) : lies l x = (is && th && (y.own == 0)) := by
 unfold lies
 cases h : parent x.path with
 | none => rw [h] at hi; subst hi; rfl
 | some u => ?_
 rw [h] at hp hi
 simp only [Option.getD_some, Option.isSome_some] at hp hi
 subst hp hi
 simp only [free]
 cases h2 : find l u with
 | none => rw [h2] at hth; subst hth; rfl
 | some v => ?_
 rw [h2] at hth hy
 simp only [Option.getD_some, Option.isSome_some] at hth hy
 subst hth hy; simp
theorem not_up {a z : Bs} (h : (Op.bytesLess a z || a == z) = true) : lt z a = false := by
 simp only [Bool.or_eq_true, beq_iff_eq] at h
 rcases h with h | rfl
 ·exact lt_asymm h
 exact lt_irrefl _
theorem is_up {a z : Bs} (h : (Op.bytesLess a z || a == z) = false) : lt z a = true := by
 simp only [Bool.or_eq_false_iff, beq_eq_false_iff_ne] at h
 exact lt_of h.1 h.2
theorem RrM.first {l : List Nd} {w wr w9 : World} (h : RrM l w 0 wr) (hk : 0 < l.length) (hf : fitsB l[0] = true) (f : Fp Non w w9) : RrM l w 1 w9 :=
 ⟨f, fun j hj hjk => (by obtain rfl : j = 0 := (by omega); exact hf), fun j _ h => by omega, fun j _ h1 h2 => by omega⟩
theorem RrM.next {l : List Nd} {w wr w9 : World} {k : Nat} (h : RrM l w k wr) (h0 : 0 < k) (hk : k < l.length) (hf : fitsB l[k] = true) (hu : lt l[k - 1].path l[k].path = true) (hl : lies l l[k] = true) (f : Fp Non w w9) : RrM l w (k + 1) w9 := by
 refine ⟨f, fun j hj hjk => ?_, fun j hj hjk => ?_, fun j hj hjk hp => ?_⟩
 ·rcases Nat.lt_or_eq_of_le (show j ≤ k by omega) with e | e
  ·exact h.fit j hj e
  subst e; exact hf
 ·rcases Nat.lt_or_eq_of_le (show j + 1 ≤ k by omega) with e | e
  ·exact h.up j hj e
  subst e; exact hu
 rcases Nat.lt_or_eq_of_le (show j ≤ k by omega) with e | e
 ·exact h.lie j hj e hp
 subst e; exact hl
theorem RrM.tree {l : List Nd} {w wr : World} {k : Nat} (h : RrM l w k wr) (hk : k = l.length) (h0 : 0 < l.length) (h5 : l.length ≤ 512) (hr : (l[0]'h0).path = [47]) (ho : (l[0]'h0).own = 0) : Tree l :=
 ⟨h0, h5, hr, ho, fun i hi => h.fit i hi (by omega), fun i hi => h.up i hi (by omega), fun i hi hp => h.lie i hi (by omega) hp⟩
set_option maxHeartbeats 6000000 in
theorem rRight_c (v : Value) (l : List Nd) (w : World) (hv : Ns w v l) (hs : Sp l) (hn : l.length ≤ 1000000) (h0 : 0 < l.length) (h5 : l.length ≤ 512) (hr : (l[0]'h0).path = [47]) (ho : (l[0]'h0).own = 0) :
  Calls Tryz.prog 35 #[v] w fun e w' => e = .returned (.bool (right l)) ∧ Fp Non w w' := by
 have HN5 := zI (show l.length ≤ 512 from h5)
 have hTR := fun (k : Nat) (wr : World) (h : RrM l w k wr) (hk : k = l.length) => h.tree hk h0 h5 hr ho
 have HTR := zI hTR
 clear hTR
 obtain ⟨ao, cap, rfl⟩ := hv.shape
 obtain ⟨n, hnn⟩ : ∃ n, n = l.length := ⟨_, rfl⟩
 obtain ⟨g, o, cap', e, _, _, _, hcell⟩ := hv.at (by omega)
 injection e with e1 e2 e3
 subst e1 e3
 have hnd := hcell 0 h0
 generalize l[0] = x at *
 obtain ⟨xp, xd, xv, xt, xo⟩ := x
 simp only at hr ho
 subst hr ho
 have c0 := hnd.c0; have c4 := hnd.c4
 unfold strV at c0
 simp only [Nat.zero_mul, Nat.add_zero] at c0 c4
 have HX := zI (yI hnn (yI hv (yI hs hcell)))
 rw [← hnn]
 have q1 : ((n : Int) == 0) = false := beq_eq_false_iff_ne.2 (by omega)
 have q2 : ((512 : Int) < (n : Int)) = False := eq_false (by omega)
 have q3 : (512 < n) = False := eq_false (by omega)
 have q4 : (0 < n) = True := eq_true (by omega)
 have q5 : ((0 : Int) < (n : Int)) = True := eq_true (by omega)
 have hnb : n ≤ 1000000 := by omega
 clear hv hs hn h5 hcell hnd h0 hnn
 go_enter Tryz.func35, Tryz.ntmps35
 go_wp2_with fail
 go_loopw [3] (fun i wr => ∃ k : Nat, k ≤ n ∧ i = .int .i64 k ∧ Hid (RrM l w k wr)) (fun i _ => n - (RowKit.intOf i).toNat)
 case atStart => exact ⟨0, Nat.zero_le _, rfl, ⟨Fp.refl _ _, fun j _ h => absurd h (Nat.not_lt_zero j), fun j _ h => absurd h (Nat.not_lt_zero _), fun j _ h => absurd h (Nat.not_lt_zero j)⟩⟩
 clear c0 c4
 obtain ⟨k, hk, rfl, hR⟩ := hrel
 rename_i wr _
 by_cases hlt : k < n
 ·have hkl : k < l.length := by rw [← HX.out.1]; exact hlt
  have hnd := (HX.out.2.2.2 k hkl).keep hR.out.fp id
  have p3 : ((k : Int) < (n : Int)) = True := eq_true (by omega)
  have p4 : (k < n) = True := eq_true hlt
  have hfn : fitsB l[k] ≠ true → ¬ Tree l := fun h t => h (t.fit k hkl)
  obtain ⟨x, hx⟩ : ∃ x, l[k] = x := ⟨_, rfl⟩
  rw [hx] at hnd hfn
  have HFN := zI hfn
  have HK := zI (yI hlt (⟨hkl, hx⟩ : ∃ h : k < l.length, l[k] = x))
  have c0 := hnd.c0; have c1 := hnd.c1; have c2 := hnd.c2; have c3 := hnd.c3; have c4 := hnd.c4
  unfold strV at c0 c1
  have HF := zI (hR.out.fp.alloc (.cells #[.string (B x.path), .string (B x.data), .int .i64 x.ver, .int .i64 x.turn, .int .i64 x.own] TN))
  clear hnd hfn hkl hx hlt
  by_cases h0 : 256 < x.data.length
  ·have HNO := zI (HFN.out (fun h => by have := (fits_iff x).1 h; omega))
   have qa0 : (256 < x.data.length) = True := eq_true (by omega)
   have qa0b : ((256 : Int) < (x.data.length : Int)) = True := eq_true (by omega)
   clear h0
   go_wp2
   go_ret
   exact ⟨by rw [right_false HNO.out]; rfl, HF.out⟩
  have qa0 : (256 < x.data.length) = False := eq_false (by omega)
  have qa0b : ((256 : Int) < (x.data.length : Int)) = False := eq_false (by omega)
  by_cases h1 : x.ver < 0
  ·have HNO := zI (HFN.out (fun h => by have := (fits_iff x).1 h; omega))
   have qa1 : (x.ver < 0) = True := eq_true (by omega)
   clear h1
   go_wp2
   go_ret
   exact ⟨by rw [right_false HNO.out]; rfl, HF.out⟩
  have qa1 : (x.ver < 0) = False := eq_false (by omega)
  by_cases h2 : 281474976710656 < x.ver
  ·have HNO := zI (HFN.out (fun h => by have := (fits_iff x).1 h; omega))
   have qa2 : (281474976710656 < x.ver) = True := eq_true (by omega)
   clear h2
   go_wp2
   go_ret
   exact ⟨by rw [right_false HNO.out]; rfl, HF.out⟩
  have qa2 : (281474976710656 < x.ver) = False := eq_false (by omega)
  by_cases h3 : x.turn < 0
  ·have HNO := zI (HFN.out (fun h => by have := (fits_iff x).1 h; omega))
   have qa3 : (x.turn < 0) = True := eq_true (by omega)
   clear h3
   go_wp2
   go_ret
   exact ⟨by rw [right_false HNO.out]; rfl, HF.out⟩
  have qa3 : (x.turn < 0) = False := eq_false (by omega)
  by_cases h4 : 10000 < x.turn
  ·have HNO := zI (HFN.out (fun h => by have := (fits_iff x).1 h; omega))
   have qa4 : (10000 < x.turn) = True := eq_true (by omega)
   clear h4
   go_wp2
   go_ret
   exact ⟨by rw [right_false HNO.out]; rfl, HF.out⟩
  have qa4 : (10000 < x.turn) = False := eq_false (by omega)
  by_cases h5 : x.own < 0
  ·have HNO := zI (HFN.out (fun h => by have := (fits_iff x).1 h; omega))
   have qa5 : (x.own < 0) = True := eq_true (by omega)
   clear h5
   go_wp2
   go_ret
   exact ⟨by rw [right_false HNO.out]; rfl, HF.out⟩
  have qa5 : (x.own < 0) = False := eq_false (by omega)
  by_cases h6 : 1099511627776 < x.own
  ·have HNO := zI (HFN.out (fun h => by have := (fits_iff x).1 h; omega))
   have qa6 : (1099511627776 < x.own) = True := eq_true (by omega)
   clear h6
   go_wp2
   go_ret
   exact ⟨by rw [right_false HNO.out]; rfl, HF.out⟩
  have qa6 : (1099511627776 < x.own) = False := eq_false (by omega)
  by_cases h7 : x.own ≠ 0 ∧ x.turn ≠ 0
  ·have HNO := zI (HFN.out (fun h => by have := (fits_iff x).1 h; omega))
   have qa7 : (x.own != 0) = true := by simpa using h7.1
   have qb7 : (x.turn != 0) = true := by simpa using h7.2
   have qc7 : (x.own = 0) = False := eq_false h7.1
   have qd7 : (x.turn = 0) = False := eq_false h7.2
   clear h0 h1 h2 h3 h4 h5 h6 h7
   go_wp2
   go_ret
   exact ⟨by rw [right_false HNO.out]; rfl, HF.out⟩
  have hfit : fitsB x = true := (fits_iff x).2 (by omega)
  have HFIT := zI hfit
  have hor : x.own = 0 ∨ (x.own ≠ 0 ∧ x.turn = 0) := by omega
  clear hfit h0 h1 h2 h3 h4 h5 h6 h7
  by_cases hk0 : k = 0
  ·subst hk0
   have HM : Hid (∀ w9, Fp Non w w9 → RrM l w 1 w9) := fun w9 f => by
    obtain ⟨hkl, hx⟩ := HK.out.2
    exact hR.out.first hkl (by rw [hx]; exact HFIT.out) f
   have hj := HK.out.1
   simp only [Nat.zero_mul, Nat.add_zero] at c0 c1 c2 c3 c4
   rcases hor with h | ⟨h, h'⟩
   ·have qa7 : (x.own != 0) = false := by simp [h]
    have qb7 : (x.own = 0) = True := eq_true h
    clear h
    go_wp2
    go_roundw
    case rel => exact ⟨1, by omega, by go_num, HM.out _ HF.out⟩
    case measure => simp [RowKit.intOf]; omega
   have qa7 : (x.own != 0) = true := by simpa using h
   have qb7 : (x.own = 0) = False := eq_false h
   have qc7 : (x.turn != 0) = false := by simp [h']
   have qd7 : (x.turn = 0) = True := eq_true h'
   clear h h'
   go_wp2
   go_roundw
   case rel => exact ⟨1, by omega, by go_num, HM.out _ HF.out⟩
   case measure => simp [RowKit.intOf]; omega
  have hkb : k ≤ 512 := by have h1 := HK.out.1; have h2 := HN5.out; have h3 := HX.out.1; omega
  have p5 : ((k : Int) == 0) = false := beq_eq_false_iff_ne.2 (by omega)
  have p6 : ((k : Int) = 0) = False := eq_false (by omega)
  have hspx : x.path.length ≤ 1000000 := by
   obtain ⟨hkl, hx⟩ := HK.out.2
   rw [← hx]; exact HX.out.2.2.1 _ (List.getElem_mem _)
  have hpa := fun w => rParent_g x.path w (sz_of hspx (by omega))
  obtain ⟨p, hp⟩ : ∃ p, (parent x.path).getD [] = p := ⟨_, rfl⟩
  obtain ⟨is, hi⟩ : ∃ b, (parent x.path).isSome = b := ⟨_, rfl⟩
  obtain ⟨th, hth⟩ : ∃ b, (find l p).isSome = b := ⟨_, rfl⟩
  obtain ⟨y, hy⟩ : ∃ y, (find l p).getD zeroNd = y := ⟨_, rfl⟩
  have HLT := zI (lies_tell (x := x) hp hi hth hy)
  rw [hp, hi] at hpa
  have hfd : ∀ w2, Fp Non w w2 → Calls Tryz.prog 60 #[.slice (some ⟨g, o, none⟩) n cap, .string (B p)] w2 fun e w' => e = .returned (.tuple #[.agg #[.string (B y.path), .string (B y.data), .int .i64 y.ver, .int .i64 y.turn, .int .i64 y.own], .bool th]) ∧ Fp Non w2 w' := fun w2 f => by
   have := rFind_c _ l p w2 (HX.out.2.1.non f) (by have h2 := HN5.out; omega)
   rw [← HX.out.1, hy, hth] at this
   exact this
  obtain ⟨z, hz⟩ : ∃ z, z = (l[k-1]'(by have h1 := HK.out.1; have h2 := HX.out.1; omega)).path := ⟨_, rfl⟩
  have HPZ : Hid (w.cell? ⟨g, o + (k - 1) * 5, none⟩ = some (.string (B z))) := by
   have := (HX.out.2.2.2 (k - 1) (by have h1 := HK.out.1; have h2 := HX.out.1; omega)).c0
   rw [← hz] at this; exact this
  have HNL : Hid (lies l x = false → ¬ Tree l) := fun h t => by
   obtain ⟨hkl, hx⟩ := HK.out.2
   have := t.lie k hkl (by omega)
   rw [hx, h] at this; cases this
  have HNU : Hid ((Op.bytesLess x.path z || x.path == z) = true → ¬ Tree l) := fun h t => by
   obtain ⟨hkl, hx⟩ := HK.out.2
   have h1 := (t.chk k hkl).2 (by omega)
   have h1 := h1.1 (by omega)
   rw [hx, ← hz] at h1
   exact absurd h1 (by rw [not_up h]; simp)
  have HNX : Hid (lt z x.path = true → lies l x = true → ∀ w9, Fp Non w w9 → RrM l w (k + 1) w9) := fun h1 h2 w9 f => by
   obtain ⟨hkl, hx⟩ := HK.out.2
   exact hR.out.next (by omega) hkl (by rw [hx]; exact HFIT.out) (by rw [← hz, hx]; exact h1) (by rw [hx]; exact h2) f
  have HPA := zI hpa
  have HFD := zI hfd
  have wk : IntKind.i64.wrap ((k : Int) - 1) = ((k - 1 : Nat) : Int) := by rw [IntKind.wrap_i64]; omega
  have qz : ((0 : Int) < (k : Int)) = True := eq_true (by omega)
  have qz2 : (0 < k) = True := eq_true (by omega)
  have qn : (((k - 1 : Nat) : Int) < (n : Int)) = True := eq_true (by have h1 := HK.out.1; omega)
  have qn2 : (k - 1 < n) = True := eq_true (by have h1 := HK.out.1; omega)
  clear hpa hfd hspx hk0 hp hi hth hy hz
  rcases hor with h | ⟨h, h'⟩
  ·have qa7 : (x.own != 0) = false := by simp [h]
   have qb7 : (x.own = 0) = True := eq_true h
   clear h
   by_cases hge : (Op.bytesLess x.path z || x.path == z) = true
   ·have HNO := zI (HNU.out hge)
    have hge2 := not_up hge
    clear hge
    go_wp2_with fail
    refine (HPA.out _).mono ?_
    rintro e w2 ⟨rfl, hg2⟩
    have F2 := zI (HF.out.then (Gr.fp hg2))
    have B2 := zI ((NdAt.box wr x).keep (Gr.fp hg2) id)
    clear hg2
    obtain ⟨b0, b1, b2, b3, b4⟩ := B2.out.five
    go_wp2_with fail
    refine (HFD.out w2 F2.out).mono ?_
    rintro e w3 ⟨rfl, hf3⟩
    have HF3 := zI (((F2.out.then hf3).alloc (.cells #[.string (B y.path), .string (B y.data), .int .i64 y.ver, .int .i64 y.turn, .int .i64 y.own] TN)).drew)
    have hs3 : (w3.alloc (.cells #[.string (B y.path), .string (B y.data), .int .i64 y.ver, .int .i64 y.turn, .int .i64 y.own] TN)).drew.cell? ⟨g, o + (k - 1) * 5, none⟩ = some (.string (B z)) ∧ (w3.alloc (.cells #[.string (B y.path), .string (B y.data), .int .i64 y.ver, .int .i64 y.turn, .int .i64 y.own] TN)).drew.cell? ⟨wr.heap.size, 0, none⟩ = some (.string (B x.path)) ∧ (w3.alloc (.cells #[.string (B y.path), .string (B y.data), .int .i64 y.ver, .int .i64 y.turn, .int .i64 y.own] TN)).drew.cell? ⟨w3.heap.size, 4, none⟩ = some (.int .i64 y.own) :=
     ⟨HF3.out.cell HPZ.out id, ((hf3.alloc (.cells #[.string (B y.path), .string (B y.data), .int .i64 y.ver, .int .i64 y.turn, .int .i64 y.own] TN)).drew).cell B2.out.c0 id, ((Fp.refl Non _).drew).cell (NdAt.box w3 y).c4 id⟩
    have HS3 := zI hs3
    clear hs3 hf3 b0 b1 b2 b3 b4
    go_wp2_with fail
    refine wp_region_held_drew (S := (fun w' => w'.cell? ⟨g, o + (k - 1) * 5, none⟩ = some (.string (B z)) ∧ w'.cell? ⟨wr.heap.size, 0, none⟩ = some (.string (B x.path)) ∧ w'.cell? ⟨w3.heap.size, 4, none⟩ = some (.int .i64 y.own))) (by kernel_rfl) ?_ (fun hH => ?_)
    ·exact HS3.out
    refine tk 0 hH ?_
    refine tk 1 hH ?_
    refine tk 2 hH ?_
    refine tk 3 hH ?_
    refine tk 4 hH ?_
    refine tk 5 hH ?_
    refine tk 6 hH ?_
    refine tk 7 hH ?_
    refine tk 8 hH ?_
    refine tk 9 hH ?_
    refine sk 10 hH ?_
    refine sk 11 hH ?_
    refine tk 12 hH ?_
    refine tk 13 hH ?_
    refine sk 14 hH ?_
    refine sk 15 hH ?_
    refine tk 16 hH ?_
    refine tk 17 hH ?_
    refine sk 18 hH ?_
    refine sk 19 hH ?_
    refine sk 20 hH ?_
    refine tk 21 hH ?_
    refine dn ?_
    go_wp2
    go_ret
    exact ⟨by rw [right_false HNO.out]; rfl, HF3.out⟩
   have hge1 : (Op.bytesLess x.path z || x.path == z) = false := by simpa using hge
   have hge2 := is_up hge1
   have HGE := zI hge2
   clear hge
   cases is with
   | false =>
    have HNO := zI (HNL.out (by rw [HLT.out]; rfl))
    go_wp2_with fail
    refine (HPA.out _).mono ?_
    rintro e w2 ⟨rfl, hg2⟩
    have F2 := zI (HF.out.then (Gr.fp hg2))
    have B2 := zI ((NdAt.box wr x).keep (Gr.fp hg2) id)
    clear hg2
    obtain ⟨b0, b1, b2, b3, b4⟩ := B2.out.five
    go_wp2_with fail
    refine (HFD.out w2 F2.out).mono ?_
    rintro e w3 ⟨rfl, hf3⟩
    have HF3 := zI (((F2.out.then hf3).alloc (.cells #[.string (B y.path), .string (B y.data), .int .i64 y.ver, .int .i64 y.turn, .int .i64 y.own] TN)).drew)
    have hs3 : (w3.alloc (.cells #[.string (B y.path), .string (B y.data), .int .i64 y.ver, .int .i64 y.turn, .int .i64 y.own] TN)).drew.cell? ⟨g, o + (k - 1) * 5, none⟩ = some (.string (B z)) ∧ (w3.alloc (.cells #[.string (B y.path), .string (B y.data), .int .i64 y.ver, .int .i64 y.turn, .int .i64 y.own] TN)).drew.cell? ⟨wr.heap.size, 0, none⟩ = some (.string (B x.path)) ∧ (w3.alloc (.cells #[.string (B y.path), .string (B y.data), .int .i64 y.ver, .int .i64 y.turn, .int .i64 y.own] TN)).drew.cell? ⟨w3.heap.size, 4, none⟩ = some (.int .i64 y.own) :=
     ⟨HF3.out.cell HPZ.out id, ((hf3.alloc (.cells #[.string (B y.path), .string (B y.data), .int .i64 y.ver, .int .i64 y.turn, .int .i64 y.own] TN)).drew).cell B2.out.c0 id, ((Fp.refl Non _).drew).cell (NdAt.box w3 y).c4 id⟩
    have HS3 := zI hs3
    clear hs3 hf3 b0 b1 b2 b3 b4
    go_wp2_with fail
    refine wp_region_held_drew (S := (fun w' => w'.cell? ⟨g, o + (k - 1) * 5, none⟩ = some (.string (B z)) ∧ w'.cell? ⟨wr.heap.size, 0, none⟩ = some (.string (B x.path)) ∧ w'.cell? ⟨w3.heap.size, 4, none⟩ = some (.int .i64 y.own))) (by kernel_rfl) ?_ (fun hH => ?_)
    ·exact HS3.out
    refine tk 0 hH ?_
    refine tk 1 hH ?_
    refine tk 2 hH ?_
    refine tk 3 hH ?_
    refine tk 4 hH ?_
    refine tk 5 hH ?_
    refine tk 6 hH ?_
    refine tk 7 hH ?_
    refine tk 8 hH ?_
    refine tk 9 hH ?_
    refine tk 10 hH ?_
    refine tk 11 hH ?_
    refine tk 12 hH ?_
    refine tk 13 hH ?_
    refine sk 14 hH ?_
    refine sk 15 hH ?_
    refine tk 16 hH ?_
    refine tk 17 hH ?_
    refine sk 18 hH ?_
    refine sk 19 hH ?_
    refine sk 20 hH ?_
    refine tk 21 hH ?_
    refine dn ?_
    go_wp2
    go_ret
    exact ⟨by rw [right_false HNO.out]; rfl, HF3.out⟩
   | true => ?_
   cases th with
   | false =>
    have HNO := zI (HNL.out (by rw [HLT.out]; rfl))
    go_wp2_with fail
    refine (HPA.out _).mono ?_
    rintro e w2 ⟨rfl, hg2⟩
    have F2 := zI (HF.out.then (Gr.fp hg2))
    have B2 := zI ((NdAt.box wr x).keep (Gr.fp hg2) id)
    clear hg2
    obtain ⟨b0, b1, b2, b3, b4⟩ := B2.out.five
    go_wp2_with fail
    refine (HFD.out w2 F2.out).mono ?_
    rintro e w3 ⟨rfl, hf3⟩
    have HF3 := zI (((F2.out.then hf3).alloc (.cells #[.string (B y.path), .string (B y.data), .int .i64 y.ver, .int .i64 y.turn, .int .i64 y.own] TN)).drew)
    have hs3 : (w3.alloc (.cells #[.string (B y.path), .string (B y.data), .int .i64 y.ver, .int .i64 y.turn, .int .i64 y.own] TN)).drew.cell? ⟨g, o + (k - 1) * 5, none⟩ = some (.string (B z)) ∧ (w3.alloc (.cells #[.string (B y.path), .string (B y.data), .int .i64 y.ver, .int .i64 y.turn, .int .i64 y.own] TN)).drew.cell? ⟨wr.heap.size, 0, none⟩ = some (.string (B x.path)) ∧ (w3.alloc (.cells #[.string (B y.path), .string (B y.data), .int .i64 y.ver, .int .i64 y.turn, .int .i64 y.own] TN)).drew.cell? ⟨w3.heap.size, 4, none⟩ = some (.int .i64 y.own) :=
     ⟨HF3.out.cell HPZ.out id, ((hf3.alloc (.cells #[.string (B y.path), .string (B y.data), .int .i64 y.ver, .int .i64 y.turn, .int .i64 y.own] TN)).drew).cell B2.out.c0 id, ((Fp.refl Non _).drew).cell (NdAt.box w3 y).c4 id⟩
    have HS3 := zI hs3
    clear hs3 hf3 b0 b1 b2 b3 b4
    go_wp2_with fail
    refine wp_region_held_drew (S := (fun w' => w'.cell? ⟨g, o + (k - 1) * 5, none⟩ = some (.string (B z)) ∧ w'.cell? ⟨wr.heap.size, 0, none⟩ = some (.string (B x.path)) ∧ w'.cell? ⟨w3.heap.size, 4, none⟩ = some (.int .i64 y.own))) (by kernel_rfl) ?_ (fun hH => ?_)
    ·exact HS3.out
    refine tk 0 hH ?_
    refine tk 1 hH ?_
    refine tk 2 hH ?_
    refine tk 3 hH ?_
    refine tk 4 hH ?_
    refine tk 5 hH ?_
    refine tk 6 hH ?_
    refine tk 7 hH ?_
    refine tk 8 hH ?_
    refine tk 9 hH ?_
    refine tk 10 hH ?_
    refine tk 11 hH ?_
    refine tk 12 hH ?_
    refine tk 13 hH ?_
    refine tk 14 hH ?_
    refine tk 15 hH ?_
    refine tk 16 hH ?_
    refine tk 17 hH ?_
    refine sk 18 hH ?_
    refine sk 19 hH ?_
    refine sk 20 hH ?_
    refine tk 21 hH ?_
    refine dn ?_
    go_wp2
    go_ret
    exact ⟨by rw [right_false HNO.out]; rfl, HF3.out⟩
   | true => ?_
   by_cases hyo : y.own = 0
   ·have HNEXT := zI (HNX.out HGE.out (by rw [HLT.out]; simp [hyo]))
    have qy : (y.own != 0) = false := by simp [hyo]
    have qy2 : (y.own = 0) = True := eq_true hyo
    clear hyo
    go_wp2_with fail
    refine (HPA.out _).mono ?_
    rintro e w2 ⟨rfl, hg2⟩
    have F2 := zI (HF.out.then (Gr.fp hg2))
    have B2 := zI ((NdAt.box wr x).keep (Gr.fp hg2) id)
    clear hg2
    obtain ⟨b0, b1, b2, b3, b4⟩ := B2.out.five
    go_wp2_with fail
    refine (HFD.out w2 F2.out).mono ?_
    rintro e w3 ⟨rfl, hf3⟩
    have HF3 := zI (((F2.out.then hf3).alloc (.cells #[.string (B y.path), .string (B y.data), .int .i64 y.ver, .int .i64 y.turn, .int .i64 y.own] TN)).drew)
    have hs3 : (w3.alloc (.cells #[.string (B y.path), .string (B y.data), .int .i64 y.ver, .int .i64 y.turn, .int .i64 y.own] TN)).drew.cell? ⟨g, o + (k - 1) * 5, none⟩ = some (.string (B z)) ∧ (w3.alloc (.cells #[.string (B y.path), .string (B y.data), .int .i64 y.ver, .int .i64 y.turn, .int .i64 y.own] TN)).drew.cell? ⟨wr.heap.size, 0, none⟩ = some (.string (B x.path)) ∧ (w3.alloc (.cells #[.string (B y.path), .string (B y.data), .int .i64 y.ver, .int .i64 y.turn, .int .i64 y.own] TN)).drew.cell? ⟨w3.heap.size, 4, none⟩ = some (.int .i64 y.own) :=
     ⟨HF3.out.cell HPZ.out id, ((hf3.alloc (.cells #[.string (B y.path), .string (B y.data), .int .i64 y.ver, .int .i64 y.turn, .int .i64 y.own] TN)).drew).cell B2.out.c0 id, ((Fp.refl Non _).drew).cell (NdAt.box w3 y).c4 id⟩
    have HS3 := zI hs3
    clear hs3 hf3 b0 b1 b2 b3 b4
    go_wp2_with fail
    refine wp_region_held_drew (S := (fun w' => w'.cell? ⟨g, o + (k - 1) * 5, none⟩ = some (.string (B z)) ∧ w'.cell? ⟨wr.heap.size, 0, none⟩ = some (.string (B x.path)) ∧ w'.cell? ⟨w3.heap.size, 4, none⟩ = some (.int .i64 y.own))) (by kernel_rfl) ?_ (fun hH => ?_)
    ·exact HS3.out
    refine tk 0 hH ?_
    refine tk 1 hH ?_
    refine tk 2 hH ?_
    refine tk 3 hH ?_
    refine tk 4 hH ?_
    refine tk 5 hH ?_
    refine tk 6 hH ?_
    refine tk 7 hH ?_
    refine tk 8 hH ?_
    refine tk 9 hH ?_
    refine tk 10 hH ?_
    refine tk 11 hH ?_
    refine tk 12 hH ?_
    refine tk 13 hH ?_
    refine tk 14 hH ?_
    refine tk 15 hH ?_
    refine tk 16 hH ?_
    refine tk 17 hH ?_
    refine tk 18 hH ?_
    refine tk 19 hH ?_
    refine tk 20 hH ?_
    refine tk 21 hH ?_
    refine dn ?_
    go_wp2
    go_roundw
    case rel => exact ⟨k + 1, by have := HK.out.1; omega, by go_num, HNEXT.out _ HF3.out⟩
    case measure => have := HK.out.1; simp [RowKit.intOf]; omega
   have HNO := zI (HNL.out (by rw [HLT.out]; simp [hyo]))
   have qy : (y.own != 0) = true := by simpa using hyo
   have qy2 : (y.own = 0) = False := eq_false hyo
   clear hyo
   go_wp2_with fail
   refine (HPA.out _).mono ?_
   rintro e w2 ⟨rfl, hg2⟩
   have F2 := zI (HF.out.then (Gr.fp hg2))
   have B2 := zI ((NdAt.box wr x).keep (Gr.fp hg2) id)
   clear hg2
   obtain ⟨b0, b1, b2, b3, b4⟩ := B2.out.five
   go_wp2_with fail
   refine (HFD.out w2 F2.out).mono ?_
   rintro e w3 ⟨rfl, hf3⟩
   have HF3 := zI (((F2.out.then hf3).alloc (.cells #[.string (B y.path), .string (B y.data), .int .i64 y.ver, .int .i64 y.turn, .int .i64 y.own] TN)).drew)
   have hs3 : (w3.alloc (.cells #[.string (B y.path), .string (B y.data), .int .i64 y.ver, .int .i64 y.turn, .int .i64 y.own] TN)).drew.cell? ⟨g, o + (k - 1) * 5, none⟩ = some (.string (B z)) ∧ (w3.alloc (.cells #[.string (B y.path), .string (B y.data), .int .i64 y.ver, .int .i64 y.turn, .int .i64 y.own] TN)).drew.cell? ⟨wr.heap.size, 0, none⟩ = some (.string (B x.path)) ∧ (w3.alloc (.cells #[.string (B y.path), .string (B y.data), .int .i64 y.ver, .int .i64 y.turn, .int .i64 y.own] TN)).drew.cell? ⟨w3.heap.size, 4, none⟩ = some (.int .i64 y.own) :=
    ⟨HF3.out.cell HPZ.out id, ((hf3.alloc (.cells #[.string (B y.path), .string (B y.data), .int .i64 y.ver, .int .i64 y.turn, .int .i64 y.own] TN)).drew).cell B2.out.c0 id, ((Fp.refl Non _).drew).cell (NdAt.box w3 y).c4 id⟩
   have HS3 := zI hs3
   clear hs3 hf3 b0 b1 b2 b3 b4
   go_wp2_with fail
   refine wp_region_held_drew (S := (fun w' => w'.cell? ⟨g, o + (k - 1) * 5, none⟩ = some (.string (B z)) ∧ w'.cell? ⟨wr.heap.size, 0, none⟩ = some (.string (B x.path)) ∧ w'.cell? ⟨w3.heap.size, 4, none⟩ = some (.int .i64 y.own))) (by kernel_rfl) ?_ (fun hH => ?_)
   ·exact HS3.out
   refine tk 0 hH ?_
   refine tk 1 hH ?_
   refine tk 2 hH ?_
   refine tk 3 hH ?_
   refine tk 4 hH ?_
   refine tk 5 hH ?_
   refine tk 6 hH ?_
   refine tk 7 hH ?_
   refine tk 8 hH ?_
   refine tk 9 hH ?_
   refine tk 10 hH ?_
   refine tk 11 hH ?_
   refine tk 12 hH ?_
   refine tk 13 hH ?_
   refine tk 14 hH ?_
   refine tk 15 hH ?_
   refine tk 16 hH ?_
   refine tk 17 hH ?_
   refine tk 18 hH ?_
   refine tk 19 hH ?_
   refine tk 20 hH ?_
   refine tk 21 hH ?_
   refine dn ?_
   go_wp2
   go_ret
   exact ⟨by rw [right_false HNO.out]; rfl, HF3.out⟩
  have qa7 : (x.own != 0) = true := by simpa using h
  have qb7 : (x.own = 0) = False := eq_false h
  have qc7 : (x.turn != 0) = false := by simp [h']
  have qd7 : (x.turn = 0) = True := eq_true h'
  clear h h'
  by_cases hge : (Op.bytesLess x.path z || x.path == z) = true
  ·have HNO := zI (HNU.out hge)
   have hge2 := not_up hge
   clear hge
   go_wp2_with fail
   refine (HPA.out _).mono ?_
   rintro e w2 ⟨rfl, hg2⟩
   have F2 := zI (HF.out.then (Gr.fp hg2))
   have B2 := zI ((NdAt.box wr x).keep (Gr.fp hg2) id)
   clear hg2
   obtain ⟨b0, b1, b2, b3, b4⟩ := B2.out.five
   go_wp2_with fail
   refine (HFD.out w2 F2.out).mono ?_
   rintro e w3 ⟨rfl, hf3⟩
   have HF3 := zI (((F2.out.then hf3).alloc (.cells #[.string (B y.path), .string (B y.data), .int .i64 y.ver, .int .i64 y.turn, .int .i64 y.own] TN)).drew)
   have hs3 : (w3.alloc (.cells #[.string (B y.path), .string (B y.data), .int .i64 y.ver, .int .i64 y.turn, .int .i64 y.own] TN)).drew.cell? ⟨g, o + (k - 1) * 5, none⟩ = some (.string (B z)) ∧ (w3.alloc (.cells #[.string (B y.path), .string (B y.data), .int .i64 y.ver, .int .i64 y.turn, .int .i64 y.own] TN)).drew.cell? ⟨wr.heap.size, 0, none⟩ = some (.string (B x.path)) ∧ (w3.alloc (.cells #[.string (B y.path), .string (B y.data), .int .i64 y.ver, .int .i64 y.turn, .int .i64 y.own] TN)).drew.cell? ⟨w3.heap.size, 4, none⟩ = some (.int .i64 y.own) :=
    ⟨HF3.out.cell HPZ.out id, ((hf3.alloc (.cells #[.string (B y.path), .string (B y.data), .int .i64 y.ver, .int .i64 y.turn, .int .i64 y.own] TN)).drew).cell B2.out.c0 id, ((Fp.refl Non _).drew).cell (NdAt.box w3 y).c4 id⟩
   have HS3 := zI hs3
   clear hs3 hf3 b0 b1 b2 b3 b4
   go_wp2_with fail
   refine wp_region_held_drew (S := (fun w' => w'.cell? ⟨g, o + (k - 1) * 5, none⟩ = some (.string (B z)) ∧ w'.cell? ⟨wr.heap.size, 0, none⟩ = some (.string (B x.path)) ∧ w'.cell? ⟨w3.heap.size, 4, none⟩ = some (.int .i64 y.own))) (by kernel_rfl) ?_ (fun hH => ?_)
   ·exact HS3.out
   refine tk 0 hH ?_
   refine tk 1 hH ?_
   refine tk 2 hH ?_
   refine tk 3 hH ?_
   refine tk 4 hH ?_
   refine tk 5 hH ?_
   refine tk 6 hH ?_
   refine tk 7 hH ?_
   refine tk 8 hH ?_
   refine tk 9 hH ?_
   refine sk 10 hH ?_
   refine sk 11 hH ?_
   refine tk 12 hH ?_
   refine tk 13 hH ?_
   refine sk 14 hH ?_
   refine sk 15 hH ?_
   refine tk 16 hH ?_
   refine tk 17 hH ?_
   refine sk 18 hH ?_
   refine sk 19 hH ?_
   refine sk 20 hH ?_
   refine tk 21 hH ?_
   refine dn ?_
   go_wp2
   go_ret
   exact ⟨by rw [right_false HNO.out]; rfl, HF3.out⟩
  have hge1 : (Op.bytesLess x.path z || x.path == z) = false := by simpa using hge
  have hge2 := is_up hge1
  have HGE := zI hge2
  clear hge
  cases is with
  | false =>
   have HNO := zI (HNL.out (by rw [HLT.out]; rfl))
   go_wp2_with fail
   refine (HPA.out _).mono ?_
   rintro e w2 ⟨rfl, hg2⟩
   have F2 := zI (HF.out.then (Gr.fp hg2))
   have B2 := zI ((NdAt.box wr x).keep (Gr.fp hg2) id)
   clear hg2
   obtain ⟨b0, b1, b2, b3, b4⟩ := B2.out.five
   go_wp2_with fail
   refine (HFD.out w2 F2.out).mono ?_
   rintro e w3 ⟨rfl, hf3⟩
   have HF3 := zI (((F2.out.then hf3).alloc (.cells #[.string (B y.path), .string (B y.data), .int .i64 y.ver, .int .i64 y.turn, .int .i64 y.own] TN)).drew)
   have hs3 : (w3.alloc (.cells #[.string (B y.path), .string (B y.data), .int .i64 y.ver, .int .i64 y.turn, .int .i64 y.own] TN)).drew.cell? ⟨g, o + (k - 1) * 5, none⟩ = some (.string (B z)) ∧ (w3.alloc (.cells #[.string (B y.path), .string (B y.data), .int .i64 y.ver, .int .i64 y.turn, .int .i64 y.own] TN)).drew.cell? ⟨wr.heap.size, 0, none⟩ = some (.string (B x.path)) ∧ (w3.alloc (.cells #[.string (B y.path), .string (B y.data), .int .i64 y.ver, .int .i64 y.turn, .int .i64 y.own] TN)).drew.cell? ⟨w3.heap.size, 4, none⟩ = some (.int .i64 y.own) :=
    ⟨HF3.out.cell HPZ.out id, ((hf3.alloc (.cells #[.string (B y.path), .string (B y.data), .int .i64 y.ver, .int .i64 y.turn, .int .i64 y.own] TN)).drew).cell B2.out.c0 id, ((Fp.refl Non _).drew).cell (NdAt.box w3 y).c4 id⟩
   have HS3 := zI hs3
   clear hs3 hf3 b0 b1 b2 b3 b4
   go_wp2_with fail
   refine wp_region_held_drew (S := (fun w' => w'.cell? ⟨g, o + (k - 1) * 5, none⟩ = some (.string (B z)) ∧ w'.cell? ⟨wr.heap.size, 0, none⟩ = some (.string (B x.path)) ∧ w'.cell? ⟨w3.heap.size, 4, none⟩ = some (.int .i64 y.own))) (by kernel_rfl) ?_ (fun hH => ?_)
   ·exact HS3.out
   refine tk 0 hH ?_
   refine tk 1 hH ?_
   refine tk 2 hH ?_
   refine tk 3 hH ?_
   refine tk 4 hH ?_
   refine tk 5 hH ?_
   refine tk 6 hH ?_
   refine tk 7 hH ?_
   refine tk 8 hH ?_
   refine tk 9 hH ?_
   refine tk 10 hH ?_
   refine tk 11 hH ?_
   refine tk 12 hH ?_
   refine tk 13 hH ?_
   refine sk 14 hH ?_
   refine sk 15 hH ?_
   refine tk 16 hH ?_
   refine tk 17 hH ?_
   refine sk 18 hH ?_
   refine sk 19 hH ?_
   refine sk 20 hH ?_
   refine tk 21 hH ?_
   refine dn ?_
   go_wp2
   go_ret
   exact ⟨by rw [right_false HNO.out]; rfl, HF3.out⟩
  | true => ?_
  cases th with
  | false =>
   have HNO := zI (HNL.out (by rw [HLT.out]; rfl))
   go_wp2_with fail
   refine (HPA.out _).mono ?_
   rintro e w2 ⟨rfl, hg2⟩
   have F2 := zI (HF.out.then (Gr.fp hg2))
   have B2 := zI ((NdAt.box wr x).keep (Gr.fp hg2) id)
   clear hg2
   obtain ⟨b0, b1, b2, b3, b4⟩ := B2.out.five
   go_wp2_with fail
   refine (HFD.out w2 F2.out).mono ?_
   rintro e w3 ⟨rfl, hf3⟩
   have HF3 := zI (((F2.out.then hf3).alloc (.cells #[.string (B y.path), .string (B y.data), .int .i64 y.ver, .int .i64 y.turn, .int .i64 y.own] TN)).drew)
   have hs3 : (w3.alloc (.cells #[.string (B y.path), .string (B y.data), .int .i64 y.ver, .int .i64 y.turn, .int .i64 y.own] TN)).drew.cell? ⟨g, o + (k - 1) * 5, none⟩ = some (.string (B z)) ∧ (w3.alloc (.cells #[.string (B y.path), .string (B y.data), .int .i64 y.ver, .int .i64 y.turn, .int .i64 y.own] TN)).drew.cell? ⟨wr.heap.size, 0, none⟩ = some (.string (B x.path)) ∧ (w3.alloc (.cells #[.string (B y.path), .string (B y.data), .int .i64 y.ver, .int .i64 y.turn, .int .i64 y.own] TN)).drew.cell? ⟨w3.heap.size, 4, none⟩ = some (.int .i64 y.own) :=
    ⟨HF3.out.cell HPZ.out id, ((hf3.alloc (.cells #[.string (B y.path), .string (B y.data), .int .i64 y.ver, .int .i64 y.turn, .int .i64 y.own] TN)).drew).cell B2.out.c0 id, ((Fp.refl Non _).drew).cell (NdAt.box w3 y).c4 id⟩
   have HS3 := zI hs3
   clear hs3 hf3 b0 b1 b2 b3 b4
   go_wp2_with fail
   refine wp_region_held_drew (S := (fun w' => w'.cell? ⟨g, o + (k - 1) * 5, none⟩ = some (.string (B z)) ∧ w'.cell? ⟨wr.heap.size, 0, none⟩ = some (.string (B x.path)) ∧ w'.cell? ⟨w3.heap.size, 4, none⟩ = some (.int .i64 y.own))) (by kernel_rfl) ?_ (fun hH => ?_)
   ·exact HS3.out
   refine tk 0 hH ?_
   refine tk 1 hH ?_
   refine tk 2 hH ?_
   refine tk 3 hH ?_
   refine tk 4 hH ?_
   refine tk 5 hH ?_
   refine tk 6 hH ?_
   refine tk 7 hH ?_
   refine tk 8 hH ?_
   refine tk 9 hH ?_
   refine tk 10 hH ?_
   refine tk 11 hH ?_
   refine tk 12 hH ?_
   refine tk 13 hH ?_
   refine tk 14 hH ?_
   refine tk 15 hH ?_
   refine tk 16 hH ?_
   refine tk 17 hH ?_
   refine sk 18 hH ?_
   refine sk 19 hH ?_
   refine sk 20 hH ?_
   refine tk 21 hH ?_
   refine dn ?_
   go_wp2
   go_ret
   exact ⟨by rw [right_false HNO.out]; rfl, HF3.out⟩
  | true => ?_
  by_cases hyo : y.own = 0
  ·have HNEXT := zI (HNX.out HGE.out (by rw [HLT.out]; simp [hyo]))
   have qy : (y.own != 0) = false := by simp [hyo]
   have qy2 : (y.own = 0) = True := eq_true hyo
   clear hyo
   go_wp2_with fail
   refine (HPA.out _).mono ?_
   rintro e w2 ⟨rfl, hg2⟩
   have F2 := zI (HF.out.then (Gr.fp hg2))
   have B2 := zI ((NdAt.box wr x).keep (Gr.fp hg2) id)
   clear hg2
   obtain ⟨b0, b1, b2, b3, b4⟩ := B2.out.five
   go_wp2_with fail
   refine (HFD.out w2 F2.out).mono ?_
   rintro e w3 ⟨rfl, hf3⟩
   have HF3 := zI (((F2.out.then hf3).alloc (.cells #[.string (B y.path), .string (B y.data), .int .i64 y.ver, .int .i64 y.turn, .int .i64 y.own] TN)).drew)
   have hs3 : (w3.alloc (.cells #[.string (B y.path), .string (B y.data), .int .i64 y.ver, .int .i64 y.turn, .int .i64 y.own] TN)).drew.cell? ⟨g, o + (k - 1) * 5, none⟩ = some (.string (B z)) ∧ (w3.alloc (.cells #[.string (B y.path), .string (B y.data), .int .i64 y.ver, .int .i64 y.turn, .int .i64 y.own] TN)).drew.cell? ⟨wr.heap.size, 0, none⟩ = some (.string (B x.path)) ∧ (w3.alloc (.cells #[.string (B y.path), .string (B y.data), .int .i64 y.ver, .int .i64 y.turn, .int .i64 y.own] TN)).drew.cell? ⟨w3.heap.size, 4, none⟩ = some (.int .i64 y.own) :=
    ⟨HF3.out.cell HPZ.out id, ((hf3.alloc (.cells #[.string (B y.path), .string (B y.data), .int .i64 y.ver, .int .i64 y.turn, .int .i64 y.own] TN)).drew).cell B2.out.c0 id, ((Fp.refl Non _).drew).cell (NdAt.box w3 y).c4 id⟩
   have HS3 := zI hs3
   clear hs3 hf3 b0 b1 b2 b3 b4
   go_wp2_with fail
   refine wp_region_held_drew (S := (fun w' => w'.cell? ⟨g, o + (k - 1) * 5, none⟩ = some (.string (B z)) ∧ w'.cell? ⟨wr.heap.size, 0, none⟩ = some (.string (B x.path)) ∧ w'.cell? ⟨w3.heap.size, 4, none⟩ = some (.int .i64 y.own))) (by kernel_rfl) ?_ (fun hH => ?_)
   ·exact HS3.out
   refine tk 0 hH ?_
   refine tk 1 hH ?_
   refine tk 2 hH ?_
   refine tk 3 hH ?_
   refine tk 4 hH ?_
   refine tk 5 hH ?_
   refine tk 6 hH ?_
   refine tk 7 hH ?_
   refine tk 8 hH ?_
   refine tk 9 hH ?_
   refine tk 10 hH ?_
   refine tk 11 hH ?_
   refine tk 12 hH ?_
   refine tk 13 hH ?_
   refine tk 14 hH ?_
   refine tk 15 hH ?_
   refine tk 16 hH ?_
   refine tk 17 hH ?_
   refine tk 18 hH ?_
   refine tk 19 hH ?_
   refine tk 20 hH ?_
   refine tk 21 hH ?_
   refine dn ?_
   go_wp2
   go_roundw
   case rel => exact ⟨k + 1, by have := HK.out.1; omega, by go_num, HNEXT.out _ HF3.out⟩
   case measure => have := HK.out.1; simp [RowKit.intOf]; omega
  have HNO := zI (HNL.out (by rw [HLT.out]; simp [hyo]))
  have qy : (y.own != 0) = true := by simpa using hyo
  have qy2 : (y.own = 0) = False := eq_false hyo
  clear hyo
  go_wp2_with fail
  refine (HPA.out _).mono ?_
  rintro e w2 ⟨rfl, hg2⟩
  have F2 := zI (HF.out.then (Gr.fp hg2))
  have B2 := zI ((NdAt.box wr x).keep (Gr.fp hg2) id)
  clear hg2
  obtain ⟨b0, b1, b2, b3, b4⟩ := B2.out.five
  go_wp2_with fail
  refine (HFD.out w2 F2.out).mono ?_
  rintro e w3 ⟨rfl, hf3⟩
  have HF3 := zI (((F2.out.then hf3).alloc (.cells #[.string (B y.path), .string (B y.data), .int .i64 y.ver, .int .i64 y.turn, .int .i64 y.own] TN)).drew)
  have hs3 : (w3.alloc (.cells #[.string (B y.path), .string (B y.data), .int .i64 y.ver, .int .i64 y.turn, .int .i64 y.own] TN)).drew.cell? ⟨g, o + (k - 1) * 5, none⟩ = some (.string (B z)) ∧ (w3.alloc (.cells #[.string (B y.path), .string (B y.data), .int .i64 y.ver, .int .i64 y.turn, .int .i64 y.own] TN)).drew.cell? ⟨wr.heap.size, 0, none⟩ = some (.string (B x.path)) ∧ (w3.alloc (.cells #[.string (B y.path), .string (B y.data), .int .i64 y.ver, .int .i64 y.turn, .int .i64 y.own] TN)).drew.cell? ⟨w3.heap.size, 4, none⟩ = some (.int .i64 y.own) :=
   ⟨HF3.out.cell HPZ.out id, ((hf3.alloc (.cells #[.string (B y.path), .string (B y.data), .int .i64 y.ver, .int .i64 y.turn, .int .i64 y.own] TN)).drew).cell B2.out.c0 id, ((Fp.refl Non _).drew).cell (NdAt.box w3 y).c4 id⟩
  have HS3 := zI hs3
  clear hs3 hf3 b0 b1 b2 b3 b4
  go_wp2_with fail
  refine wp_region_held_drew (S := (fun w' => w'.cell? ⟨g, o + (k - 1) * 5, none⟩ = some (.string (B z)) ∧ w'.cell? ⟨wr.heap.size, 0, none⟩ = some (.string (B x.path)) ∧ w'.cell? ⟨w3.heap.size, 4, none⟩ = some (.int .i64 y.own))) (by kernel_rfl) ?_ (fun hH => ?_)
  ·exact HS3.out
  refine tk 0 hH ?_
  refine tk 1 hH ?_
  refine tk 2 hH ?_
  refine tk 3 hH ?_
  refine tk 4 hH ?_
  refine tk 5 hH ?_
  refine tk 6 hH ?_
  refine tk 7 hH ?_
  refine tk 8 hH ?_
  refine tk 9 hH ?_
  refine tk 10 hH ?_
  refine tk 11 hH ?_
  refine tk 12 hH ?_
  refine tk 13 hH ?_
  refine tk 14 hH ?_
  refine tk 15 hH ?_
  refine tk 16 hH ?_
  refine tk 17 hH ?_
  refine tk 18 hH ?_
  refine tk 19 hH ?_
  refine tk 20 hH ?_
  refine tk 21 hH ?_
  refine dn ?_
  go_wp2
  go_ret
  exact ⟨by rw [right_false HNO.out]; rfl, HF3.out⟩
 have hke : k = n := by omega
 subst hke
 have p3 : ((k : Int) < (k : Int)) = False := eq_false (by omega)
 have hT : Tree l := HTR.out _ _ hR.out HX.out.1
 have HT := zI hT
 clear hlt hk hT
 go_wp2
 go_ret
 exact ⟨by rw [right_true HT.out]; rfl, hR.out.fp⟩
set_option maxHeartbeats 1000000 in
theorem rRightN_g (v : Value) (l : List Nd) (w : World) (hv : Ns w v l) (hs : Sp l) :
  Calls Tryz.prog 35 #[v] w fun e w' => e = .returned (.bool (right l)) ∧ Fp Non w w' := by
 by_cases h0 : 0 < l.length
 ·by_cases h5 : l.length ≤ 512
  ·by_cases hr : (l[0]'h0).path = [47]
   ·by_cases ho : (l[0]'h0).own = 0
    ·exact rRight_c v l w hv hs (by omega) h0 h5 hr ho
    have hf : right l = false := right_false (fun t => ho t.free)
    obtain ⟨g, o, cap, rfl, hlc, hcm, hgl, hcell⟩ := hv.at h0
    have hc0 := hcell 0 h0
    obtain ⟨n, hn⟩ : ∃ n, n = l.length := ⟨_, rfl⟩
    have q0 : w.cell? ⟨g, o, none⟩ = some (.string ⟨#[47]⟩) := by have := hc0.c0; rw [hr] at this; simpa [strV, B] using this
    obtain ⟨z, hz⟩ : ∃ z, z = (l[0]'h0).own := ⟨_, rfl⟩
    have q4 : w.cell? ⟨g, o + 4, none⟩ = some (.int .i64 z) := by have := hc0.c4; rw [← hz] at this; simpa using this
    have q1 : ((512 : Int) < (n : Int)) = False := eq_false (by omega)
    have q2 : ((n : Int) == 0) = false := beq_eq_false_iff_ne.2 (by omega)
    have q3 : (z != 0) = true := by rw [hz]; simpa using ho
    rw [hf, ← hn]
    have hn0 : 0 < n := by omega
    clear hv hlc hcm hc0 hcell hr ho hf hz hs h5 hn h0
    go_enter Tryz.func35, Tryz.ntmps35
    go_wp2
    go_ret
    exact ⟨rfl, Fp.refl _ _⟩
   have hf : right l = false := right_false (fun t => hr t.root)
   obtain ⟨g, o, cap, rfl, hlc, hcm, hgl, hcell⟩ := hv.at h0
   have hc0 := hcell 0 h0
   obtain ⟨n, hn⟩ : ∃ n, n = l.length := ⟨_, rfl⟩
   obtain ⟨p, hp⟩ : ∃ p, p = (l[0]'h0).path := ⟨_, rfl⟩
   have q0 : w.cell? ⟨g, o, none⟩ = some (.string (B p)) := by have := hc0.c0; rw [← hp] at this; simpa [strV] using this
   have q1 : ((512 : Int) < (n : Int)) = False := eq_false (by omega)
   have q2 : ((n : Int) == 0) = false := beq_eq_false_iff_ne.2 (by omega)
   have q3 : (p == [47]) = false := by rw [hp]; simpa using hr
   rw [hf, ← hn]
   have hn0 : 0 < n := by omega
   clear hv hlc hcm hc0 hcell hr hf hp hs h5 hn h0
   go_enter Tryz.func35, Tryz.ntmps35
   go_wp2
   go_ret
   exact ⟨rfl, Fp.refl _ _⟩
  have hf : right l = false := right_false (fun t => h5 t.most)
  obtain ⟨ao, cap, rfl⟩ := hv.shape
  obtain ⟨n, hn⟩ : ∃ n, n = l.length := ⟨_, rfl⟩
  have q1 : ((512 : Int) < (n : Int)) = True := eq_true (by omega)
  have q2 : ((n : Int) == 0) = false := beq_eq_false_iff_ne.2 (by omega)
  rw [hf, ← hn]
  clear hv hf hs h5 hn h0
  go_enter Tryz.func35, Tryz.ntmps35
  go_wp2
  go_ret
  exact ⟨rfl, Fp.refl _ _⟩
 have hf : right l = false := right_false (fun t => h0 t.pos)
 have h0' : l.length = 0 := by omega
 obtain ⟨ao, cap, rfl⟩ := hv.shape
 rw [hf, h0']
 clear hv hf hs h0 h0'
 go_enter Tryz.func35, Tryz.ntmps35
 go_wp2
 go_ret
 exact ⟨rfl, Fp.refl _ _⟩
def OwnN (lo : Nat) (w : World) (v : Value) (l : List Nd) : Prop := w.ownsRow lo TN 5 v l.length (rows l)
theorem OwnN.nil (lo : Nat) (w : World) : OwnN lo w (.slice none 0 0) [] := World.ownsRow_nil _ _ _ _
theorem OwnN.non {lo : Nat} {w w' : World} {v : Value} {l : List Nd} (h : OwnN lo w v l) (f : Fp Non w w') : OwnN lo w' v l := f.owns h (fun _ _ h => h)
theorem OwnN.ns {lo : Nat} {w : World} {v : Value} {l : List Nd} (h : OwnN lo w v l) : Ns w v l := by
 have h' := h
 rcases h.2 with ⟨e, h0⟩ | ⟨g, cap, cur, e, hb, hg, h1, h2, h3, h4⟩
 ·subst e
  obtain rfl : l = [] := by simpa using h0
  exact Ns.nil w
 subst e
 exact (Nr.of_owns h' rfl).1.ns
theorem OwnN.shape {lo : Nat} {w : World} {v : Value} {l : List Nd} (h : OwnN lo w v l) : ∃ ao cap, v = .slice ao l.length cap := h.ns.shape
structure AnN (lo : Nat) (w : World) (l : List Nd) (v' : Value) (w' : World) : Prop where
 own : OwnN lo w' v' l
 fp : Fp (fun k => lo ≤ k) w w'
theorem app_node (w : World) (lo : Nat) (v : Value) (l : List Nd) (x : Nd) (ty : TypeId) (ho : OwnN lo w v l) (hn : l.length ≤ 10000) (hlo : lo ≤ w.heap.size) :
  ∃ v' w', (Builtin.append_ #[TL, TL] ty #[v, .slice (some ⟨w.heap.size, 0, none⟩) 1 1]).run Tryz.prog (w.alloc (.cells #[.string (B x.path), .string (B x.data), .int .i64 x.ver, .int .i64 x.turn, .int .i64 x.own] TN)) = .ok v' w' ∧ AnN lo w (l ++ [x]) v' w' := by
 obtain ⟨G, cap, w', hr, hrow, hG, hg, _⟩ := app_nodes (w.alloc (.cells #[.string (B x.path), .string (B x.data), .int .i64 x.ver, .int .i64 x.turn, .int .i64 x.own] TN)) lo v l [x] ty w.heap.size 0 1 1 (ho.non ((Fp.refl Non w).alloc _)) rfl
  (fun i hi => by
   obtain rfl : i = 0 := by simp at hi; omega
   exact NdAt.box w x) (by simp; omega) (by simp; omega) (by simp)
 refine ⟨_, w', hr, ⟨?_, ?_⟩⟩
 ·have := hrow.owns hG
  rw [List.length_append] at this
  unfold OwnN; rw [List.length_append]; exact this
 refine ((Fp.refl (fun k => lo ≤ k) w).alloc _).grown hg (fun k hk => .inl ?_)
 exact (ho.lt k hk).1
theorem kids_take (l : List Nd) (p : Bs) (k : Nat) (hk : k < l.length) : kids (l.take (k + 1)) p = kids (l.take k) p ++ if (parent l[k].path == some p) = true then [l[k]] else [] := by
 unfold kids
 rw [List.take_succ_eq_append_getElem hk, List.filter_append]
 congr 1
 rw [List.filter_cons, List.filter_nil]
set_option maxHeartbeats 8000000 in
theorem rChildren_c (v : Value) (l : List Nd) (p : Bs) (w : World) (hv : Ns w v l) (hs : Sp l) (hl : l.length ≤ 2000) :
  Calls Tryz.prog 100 #[v, .string (B p)] w fun e w' => ∃ v', e = .returned v' ∧ OwnN w.heap.size w' v' (kids l p) ∧ Fp Non w w' := by
 obtain ⟨ao, cap, rfl⟩ := hv.shape
 obtain ⟨n, hn⟩ : ∃ n, n = l.length := ⟨_, rfl⟩
 rw [← hn]
 have HX := zI (yI hn (yI hs hv))
 have hn6 : n ≤ 2000 := by omega
 have H0 : Hid (OwnN w.heap.size w (.slice none 0 0) (kids (l.take 0) p) ∧ Fp Non w w) := ⟨by rw [List.take_zero]; exact OwnN.nil _ _, Fp.refl _ _⟩
 clear hs hn hl hv
 go_enter Tryz.func100, Tryz.ntmps100
 go_wp2_with fail
 go_loopw [5, 6] (fun v i wr => ∃ k : Nat, k ≤ n ∧ i = .int .i64 k ∧ Hid (OwnN w.heap.size wr v (kids (l.take k) p) ∧ Fp Non w wr)) (fun _ i _ => n - (RowKit.intOf i).toNat)
 case atStart => exact ⟨0, Nat.zero_le _, rfl, H0⟩
 clear H0
 obtain ⟨k, hk, rfl, hR⟩ := hrel
 rename_i wr _
 by_cases hlt : k < n
 ·have hkl : k < l.length := by rw [← HX.out.1]; exact hlt
  obtain ⟨g, o, cap', e, _, _, _, hcell⟩ := HX.out.2.2.at (by omega)
  injection e with e1 e2 e3
  subst e1 e3
  have hnd := (hcell k hkl).keep hR.out.2 id
  have hstep := kids_take l p k hkl
  have hsp := HX.out.2.1 _ (List.getElem_mem hkl)
  generalize l[k] = x at *
  have hpa := fun w => rParent_g x.path w (sz_of hsp (by omega))
  obtain ⟨u, hu⟩ : ∃ u, (parent x.path).getD [] = u := ⟨_, rfl⟩
  obtain ⟨is, hi⟩ : ∃ b, (parent x.path).isSome = b := ⟨_, rfl⟩
  have hpp : (parent x.path == some p) = (is && (u == p)) := by
   cases h : parent x.path with
   | none => rw [h] at hi; subst hi; rfl
   | some u' => rw [h] at hi hu; simp only [Option.getD_some, Option.isSome_some] at hi hu; subst hi hu; simp
  rw [hu, hi] at hpa
  rw [hpp] at hstep
  have c0 := hnd.c0; have c1 := hnd.c1; have c2 := hnd.c2; have c3 := hnd.c3; have c4 := hnd.c4
  unfold strV at c0 c1
  have q3 : ((k : Int) < (n : Int)) = True := eq_true (by omega)
  have q4 : (k < n) = True := eq_true hlt
  have HPA := zI hpa
  have HB := zI (yI hstep hnd)
  have HL := zI hlt
  clear hnd hstep hkl hlt hsp hpa hu hi hpp hcell
  go_wp2_with fail
  refine (HPA.out _).mono ?_
  rintro e w2 ⟨rfl, g2⟩
  have HF2 := zI (yI (hR.out.2.then g2.fp) g2.fp)
  have HO2 := zI (hR.out.1.non g2.fp)
  have hn2 := HB.out.2.keep g2.fp id
  clear g2 c0 c1 c2 c3 c4
  cases is with
  | false =>
   have hM : Hid (OwnN w.heap.size w2 _ (kids (l.take (k + 1)) p) ∧ Fp Non w w2) := ⟨by rw [HB.out.1]; simpa using HO2.out, HF2.out.1⟩
   have hj1 := HL.out
   clear hn2 HO2 HF2
   go_wp2
   go_roundw
   case rel => exact ⟨k + 1, by omega, by go_num, hM⟩
   case measure => simp [RowKit.intOf]; omega
  | true => ?_
  by_cases hup : u = p
  ·have q5 : (u == p) = true := beq_iff_eq.2 hup
   have q6 : (u = p) = True := eq_true hup
   have HUP := zI hup
   clear hup
   have c0 := hn2.c0; have c1 := hn2.c1; have c2 := hn2.c2; have c3 := hn2.c3; have c4 := hn2.c4
   unfold strV at c0 c1
   clear hn2
   obtain ⟨ks, hks⟩ : ∃ ks, ks = kids (l.take k) p := ⟨_, rfl⟩
   have hap := app_node w2 w.heap.size _ ks x TL (by rw [hks]; exact HO2.out) (by rw [hks]; exact Nat.le_trans (List.length_filter_le _ _) (by rw [List.length_take]; omega)) HF2.out.1.size
   obtain ⟨vao, vcap, rfl⟩ := HO2.out.shape
   rw [← hks] at hap
   have HKS := zI hks
   have HAP := zI hap
   rw [← hks]
   clear hap hks
   go_wp2_with (at_builtin; go_must (refine wpList_app rfl _ _ _ _ rfl _ _ rfl rfl _ HAP.out ?_))
   intro v4 w4 hR4
   have hM : Hid (OwnN w.heap.size w4 v4 (kids (l.take (k + 1)) p) ∧ Fp Non w w4) := ⟨by rw [HB.out.1, q5]; have := hR4.own; rw [HKS.out] at this; simpa using this, HF2.out.1.trans hR4.fp (fun k hk => .inr hk)⟩
   have hj1 := HL.out
   clear hR4
   go_wp2
   go_roundw
   case rel => exact ⟨k + 1, by omega, by go_num, hM⟩
   case measure => simp [RowKit.intOf]; omega
  have q5 : (u == p) = false := beq_eq_false_iff_ne.2 hup
  have q6 : (u = p) = False := eq_false hup
  have hM : Hid (OwnN w.heap.size w2 _ (kids (l.take (k + 1)) p) ∧ Fp Non w w2) := ⟨by rw [HB.out.1, q5]; simpa using HO2.out, HF2.out.1⟩
  have hj1 := HL.out
  clear hup hn2 HO2 HF2
  go_wp2
  go_roundw
  case rel => exact ⟨k + 1, by omega, by go_num, hM⟩
  case measure => simp [RowKit.intOf]; omega
 have hke : k = n := by omega
 subst hke
 have q3 : ((k : Int) < (k : Int)) = False := eq_false (by omega)
 have hfin := hR.out.1
 rw [List.take_of_length_le (by rw [← HX.out.1]; exact Nat.le_refl _)] at hfin
 have HF := zI hfin
 clear hlt hk hfin
 go_wp2
 go_ret
 exact ⟨_, rfl, HF.out, hR.out.2⟩
end Go.Proofs.YtphoglepiegeiaaGreatDoor
