/- A text of this proof. -/
import Derived.Test.YtphoglepiegeiaaGreatDoorZAD
import Derived.Test.YtphoglepiegeiaaGreatDoorZAG
import Derived.Test.YtphoglepiegeiaaGreatDoorZAH
namespace Go.Proofs.YtphoglepiegeiaaGreatDoor
set_option linter.unusedSimpArgs false
set_option linter.unusedVariables false
set_option maxRecDepth 20000
set_option linter.unusedVariables false
set_option linter.unusedSimpArgs false
open Go.RowKit Pm
structure Sto (w : World) (v : Value) (s : St) : Prop where
 ex : ∃ vn vt, v = .agg #[vn, vt] ∧ Ns w vn s.nodes ∧ Ts w vt s.turns
theorem Sto.non {w w' : World} {v : Value} {s : St} (h : Sto w v s) (f : Fp Non w w') : Sto w' v s := by
 obtain ⟨vn, vt, e, h1, h2⟩ := h.ex
 exact ⟨vn, vt, e, h1.non f, h2.non f⟩
theorem bxN (wr : World) (x : Nd) : NdAt (wr.alloc (Obj.cells #[.string (B x.path), .string (B x.data), .int .i64 x.ver, .int .i64 x.turn, .int .i64 x.own] TN)).drew wr.heap.size 0 x := by
 have h := heap_alloc_new wr (Obj.cells #[.string (B x.path), .string (B x.data), .int .i64 x.ver, .int .i64 x.turn, .int .i64 x.own] TN)
 have hb : NdAt (wr.alloc (Obj.cells #[.string (B x.path), .string (B x.data), .int .i64 x.ver, .int .i64 x.turn, .int .i64 x.own] TN)) wr.heap.size 0 x := ⟨by rw [cell_of_row _ _ _ _ _ _ h]; rfl, by rw [cell_of_row _ _ _ _ _ _ h]; rfl, by rw [cell_of_row _ _ _ _ _ _ h]; rfl, by rw [cell_of_row _ _ _ _ _ _ h]; rfl, by rw [cell_of_row _ _ _ _ _ _ h]; rfl⟩
 exact hb.keep ((Fp.refl Non _).drew) (fun h => h)
theorem notUp {a z : Bs} (h : (Op.bytesLess a z || a == z) = true) : lt z a = false := by
 simp only [Bool.or_eq_true, beq_iff_eq] at h
 rcases h with h | rfl
 ·exact lt_asymm h
 ·exact lt_irrefl _
theorem isUp {a z : Bs} (h : (Op.bytesLess a z || a == z) = false) : lt z a = true := by
 simp only [Bool.or_eq_false_iff, beq_eq_false_iff_ne] at h
 exact lt_of h.1 h.2
def ChkN (l : List Nd) (j : Nat) (hj : j < l.length) : Prop := sfit l[j] = true ∧ (0 < j → ∀ h : j - 1 < l.length, lt l[j-1].path l[j].path = true)
theorem chkN_right {s : St} (h : StR s) : ∀ j (hj : j < s.nodes.length), ChkN s.nodes j hj := fun j hj =>
 ⟨h.fit _ (List.getElem_mem hj), fun h0 h1 => h.asc (j - 1) j h1 hj (by omega)⟩
def ChkT (l : List Tu) (j : Nat) (hj : j < l.length) : Prop := tfit l[j] = true ∧ (0 < j → ∀ h : j - 1 < l.length, lt l[j-1].dir l[j].dir = true)
theorem chkT_right {s : St} (h : StR s) : ∀ j (hj : j < s.turns.length), ChkT s.turns j hj := fun j hj =>
 ⟨h.tfit _ (List.getElem_mem hj), fun h0 h1 => h.tasc (j - 1) j h1 hj (by omega)⟩
theorem chkT_all {l : List Tu} (h : ∀ j (hj : j < l.length), ChkT l j hj) : (∀ t ∈ l, tfit t = true) ∧ AscT l :=
 ⟨fun n hn => by obtain ⟨i, hi, rfl⟩ := List.getElem_of_mem hn; exact (h i hi).1, ascT_iff.2 (asc_of fun i hi => by
  rw [List.length_map] at hi
  have := (h (i + 1) hi).2 (by omega) (by omega)
  simp only [List.getElem_map]
  show lt l[i].dir l[i+1].dir = true
  simpa using this)⟩
theorem bxT (wr : World) (x : Tu) : TuAt (wr.alloc (Obj.cells #[.string (B x.dir), .int .i64 x.next] TU)).drew wr.heap.size 0 x := by
 have h := heap_alloc_new wr (Obj.cells #[.string (B x.dir), .int .i64 x.next] TU)
 have hb : TuAt (wr.alloc (Obj.cells #[.string (B x.dir), .int .i64 x.next] TU)) wr.heap.size 0 x := ⟨by rw [cell_of_row _ _ _ _ _ _ h]; rfl, by rw [cell_of_row _ _ _ _ _ _ h]; rfl⟩
 exact hb.keep ((Fp.refl Non _).drew) (fun h => h)
theorem chkN_all {l : List Nd} (h : ∀ j (hj : j < l.length), ChkN l j hj) : (∀ n ∈ l, sfit n = true) ∧ Asc l :=
 ⟨fun n hn => by obtain ⟨i, hi, rfl⟩ := List.getElem_of_mem hn; exact (h i hi).1, asc_of fun i hi => by have := (h (i + 1) hi).2 (by omega) (by omega); simpa using this⟩
set_option maxHeartbeats 16000000 in
theorem rightP_c (v : Value) (s : St) (w : World) (hv : Sto w v s) (hs : Sp s.nodes) (hn : s.nodes.length ≤ 1000000) (hst : ∀ t ∈ s.turns, t.dir.length ≤ 1000000) (hmm : s.turns.length ≤ 1000000) :
  Calls Tryz.prog 19 #[v] w fun e w' => e = .returned (.bool (rightS s)) ∧ Fp Non w w' := by
 obtain ⟨vn, vt, rfl, h1, h2⟩ := hv.ex
 obtain ⟨ao, cap, rfl⟩ := h1.shape
 obtain ⟨at', capt, rfl⟩ := h2.shape
 obtain ⟨n, hnn⟩ : ∃ n, n = s.nodes.length := ⟨_, rfl⟩
 obtain ⟨m, hm⟩ : ∃ m, m = s.turns.length := ⟨_, rfl⟩
 obtain ⟨r, hr⟩ : ∃ r, rightS s = r := ⟨_, rfl⟩
 have HNone := Lib.hid (show ∀ k (hk : k < s.nodes.length), ¬ ChkN s.nodes k hk → r = false from fun k hk h => by rw [← hr]; exact rightS_false (fun c => h (chkN_right c k hk)))
 have HX := Lib.hid (And.intro hnn (And.intro h1 hs))
 have HT := Lib.hid (And.intro hm (And.intro h2 (And.intro hst hr)))
 have hmb : m ≤ 1000000 := by omega
 rw [hr, ← hnn, ← hm]
 have HB0 := Lib.hid (show (w.alloc (Obj.cells #[.slice ao n cap, .slice at' m capt] 25)).cell? ⟨w.heap.size, 0, none⟩ = some (.slice ao n cap) ∧ (w.alloc (Obj.cells #[.slice ao n cap, .slice at' m capt] 25)).cell? ⟨w.heap.size, 1, none⟩ = some (.slice at' m capt) from ⟨by rw [cell_of_row _ _ _ _ _ _ (heap_alloc_new w _)]; rfl, by rw [cell_of_row _ _ _ _ _ _ (heap_alloc_new w _)]; rfl⟩)
 have HF0 := Lib.hid (fp_alloc w (Obj.cells #[.slice ao n cap, .slice at' m capt] 25))
 have hnb : n ≤ 1000000 := by omega
 clear h1 h2 hv hs hn hnn hm hr hst hmm
 go_enter Tryz.func19, Tryz.ntmps19
 go_wp2_with fail
 obtain ⟨W0, hW0⟩ : ∃ W0, W0 = w.alloc (Obj.cells #[.slice ao n cap, .slice at' m capt] 25) := ⟨_, rfl⟩
 rw [← hW0] at HB0 HF0 ⊢
 clear hW0
 go_loopw [10] (fun i wr => ∃ k : Nat, k ≤ n ∧ i = .int .i64 k ∧ Hid (Fp Non W0 wr ∧ ∀ j (hj : j < s.nodes.length), j < k → ChkN s.nodes j hj)) (fun i _ => n - (RowKit.intOf i).toNat)
 case atStart => exact ⟨0, Nat.zero_le _, rfl, Fp.refl _ _, fun j _ h => absurd h (Nat.not_lt_zero j)⟩
 case round =>
  obtain ⟨k, hk, rfl, hR⟩ := hrel
  rename_i wr _
  by_cases hlt : k < n
  ·have hkl : k < s.nodes.length := by rw [← HX.out.1]; exact hlt
   obtain ⟨g, o, cap', e, _, _, _, hcell⟩ := HX.out.2.1.at (by omega)
   injection e with e1 e2 e3
   subst e1 e3
   have f0 := HF0.out.then hR.out.1
   have hnd := (hcell k hkl).keep f0 (fun h => h)
   obtain ⟨x, hx⟩ : ∃ x, x = s.nodes[k] := ⟨_, rfl⟩
   rw [← hx] at hnd
   have c0 := hnd.c0; have c1 := hnd.c1; have c2 := hnd.c2; have c3 := hnd.c3; have c4 := hnd.c4
   unfold strV at c0 c1
   have q3 : ((k : Int) < (n : Int)) = True := eq_true (by omega)
   have q4 : (k < n) = True := eq_true hlt
   have hxp : x.path.length ≤ 1000000 := HX.out.2.2 x (by rw [hx]; exact List.getElem_mem hkl)
   have hfc := fun w => fitsP_c x w hxp
   unfold ndV strV at hfc
   have hbb := bxN wr x
   have HB := Lib.hid (And.intro (((Fp.refl Non wr).alloc (Obj.cells #[.string (B x.path), .string (B x.data), .int .i64 x.ver, .int .i64 x.turn, .int .i64 x.own] TN)).drew) hbb)
   have HW := Lib.hid (f0)
   have HR0 := Lib.hid hR.out.1
   have HK := Lib.hid hlt
   have hst : (wr.alloc (Obj.cells #[.string (B x.path), .string (B x.data), .int .i64 x.ver, .int .i64 x.turn, .int .i64 x.own] TN)).drew.cell? ⟨w.heap.size, 0, none⟩ = some (.slice (some ⟨g, o, none⟩) n cap) := HB.out.1.cell (hR.out.1.cell HB0.out.1 (fun h => h)) (fun h => h)
   have hpc : ∀ k', k' < s.nodes.length → ∃ z, (wr.alloc (Obj.cells #[.string (B x.path), .string (B x.data), .int .i64 x.ver, .int .i64 x.turn, .int .i64 x.own] TN)).drew.cell? ⟨g, o + k' * 5, none⟩ = some (.string (B z)) ∧ ∀ h : k' < s.nodes.length, z = (s.nodes[k']).path := fun k' h => ⟨_, HB.out.1.cell ((hcell k' h).keep f0 (fun h => h)).c0 (fun h => h), fun _ => rfl⟩
   have hold := hR.out.2
   have hstep : sfit x = true → (0 < k → ∀ h : k - 1 < s.nodes.length, lt (s.nodes[k-1]).path x.path = true) → ∀ j (hj : j < s.nodes.length), j < k + 1 → ChkN s.nodes j hj := fun a b j hj hjk => by
    rcases Nat.lt_or_eq_of_le (show j ≤ k by omega) with e | e
    ·exact hold j hj e
    ·subst e; exact ⟨by rw [← hx]; exact a, fun h0 h1 => by rw [← hx]; exact b h0 h1⟩
   have hno : (sfit x = false ∨ (0 < k ∧ ∃ h : k - 1 < s.nodes.length, lt (s.nodes[k-1]).path x.path = false)) → r = false := fun h => HNone.out k hkl (fun c => by
    rcases h with h | ⟨h0, h1, h2⟩
    ·have := c.1; rw [← hx, h] at this; cases this
    ·have := c.2 h0 h1; rw [← hx, h2] at this; cases this)
   obtain ⟨fx, hfx⟩ : ∃ b, sfit x = b := ⟨_, rfl⟩
   rw [hfx] at hfc hstep hno
   have HFC := Lib.hid hfc
   have HST := Lib.hid (And.intro hstep (And.intro hno (And.intro hst (And.intro hpc hkl))))
   clear hfc hbb hst hpc hold hstep hno hfx hxp hx hnd hcell f0
   cases fx with
   | false =>
    have HNO := Lib.hid (HST.out.2.1 (.inl rfl))
    clear hkl hlt hk
    go_wp2_with fail
    refine wp_region_held_drew (S := (fun w' => w'.cell? ⟨wr.heap.size, 0, none⟩ = some (.string (B x.path)) ∧ w'.cell? ⟨wr.heap.size, 1, none⟩ = some (.string (B x.data)) ∧ w'.cell? ⟨wr.heap.size, 2, none⟩ = some (.int .i64 x.ver) ∧ w'.cell? ⟨wr.heap.size, 3, none⟩ = some (.int .i64 x.turn) ∧ w'.cell? ⟨wr.heap.size, 4, none⟩ = some (.int .i64 x.own))) (by kernel_rfl) ?_ (fun hHeld => ?_)
    ·exact ⟨HB.out.2.c0, HB.out.2.c1, HB.out.2.c2, HB.out.2.c3, HB.out.2.c4⟩
    refine tk 0 (v := ?_) hHeld (fun w hSw => ?_) ?_; rotate_left
    ·(try dsimp only at hSw); obtain ⟨s0, s1, s2, s3, s4⟩ := hSw; go_simp; try with_reducible rfl
    try simp only [zP, zN, zS, zT, zU]
    refine wpAnyH_ready (rs := [1]) (by kernel_rfl) (by simp) ?_
    refine AllReadyH.cons (o := ?ob232) ?hb232 (fun K hK => ?_) AllReadyH.nil
    case hb232 => simp only [zA, zB, zC] <;> exact rfl
    go_simp
    go_at_call 63
    refine (HFC.out _).mono ?_
    rintro e w1 ⟨rfl, f1⟩
    have b1 := HB.out.2.keep f1 (fun h => h)
    have HS1 := Lib.hid (And.intro b1.c0 (And.intro b1.c1 (And.intro b1.c2 (And.intro b1.c3 b1.c4))))
    have F := Lib.hid (HB.out.1.then f1)
    clear f1 b1
    go_wp2_with fail
    refine hK.out _ _ HS1.out (fun hHeld => ?_)
    clear hK K
    try simp only [zP, zN, zS, zT, zU]
    refine tk 2 (v := ?_) hHeld (fun w hSw => ?_) ?_; rotate_left
    ·(try dsimp only at hSw); obtain ⟨s0, s1, s2, s3, s4⟩ := hSw; go_simp; try with_reducible rfl
    try simp only [zP, zN, zS, zT, zU]
    refine tk 3 (v := ?_) hHeld (fun w hSw => ?_) ?_; rotate_left
    ·(try dsimp only at hSw); obtain ⟨s0, s1, s2, s3, s4⟩ := hSw; go_simp; try with_reducible rfl
    try simp only [zP, zN, zS, zT, zU]
    refine sk 4 hHeld ?_
    try simp only [zP, zN, zS, zT, zU]
    refine sk 5 hHeld ?_
    try simp only [zP, zN, zS, zT, zU]
    refine sk 6 hHeld ?_
    try simp only [zP, zN, zS, zT, zU]
    refine sk 7 hHeld ?_
    try simp only [zP, zN, zS, zT, zU]
    refine sk 8 hHeld ?_
    try simp only [zP, zN, zS, zT, zU]
    refine sk 9 hHeld ?_
    try simp only [zP, zN, zS, zT, zU]
    refine sk 10 hHeld ?_
    try simp only [zP, zN, zS, zT, zU]
    refine sk 11 hHeld ?_
    try simp only [zP, zN, zS, zT, zU]
    refine sk 12 hHeld ?_
    try simp only [zP, zN, zS, zT, zU]
    refine sk 13 hHeld ?_
    try simp only [zP, zN, zS, zT, zU]
    refine sk 14 hHeld ?_
    try simp only [zP, zN, zS, zT, zU]
    refine sk 15 hHeld ?_
    try simp only [zP, zN, zS, zT, zU]
    refine sk 16 hHeld ?_
    try simp only [zP, zN, zS, zT, zU]
    refine sk 17 hHeld ?_
    try simp only [zP, zN, zS, zT, zU]
    refine tk 18 (v := ?_) hHeld (fun w hSw => ?_) ?_; rotate_left
    ·(try dsimp only at hSw); obtain ⟨s0, s1, s2, s3, s4⟩ := hSw; go_simp; try with_reducible rfl
    try simp only [zP, zN, zS, zT, zU]
    refine wpAnyH_done (by kernel_rfl) ?_ _
    go_wp2
    go_ret
    exact ⟨ret_bool HNO.out.symm, HW.out.then F.out⟩
   | true =>
    rcases Nat.eq_zero_or_pos k with hk0 | hk0
    ·subst hk0
     simp only [Nat.zero_mul, Nat.add_zero] at c0 c1 c2 c3 c4
     have HNX := Lib.hid (HST.out.1 rfl (fun h => absurd h (by omega)))
     clear hkl hlt hk
     go_wp2_with fail
     refine wp_region_held_drew (S := (fun w' => w'.cell? ⟨wr.heap.size, 0, none⟩ = some (.string (B x.path)) ∧ w'.cell? ⟨wr.heap.size, 1, none⟩ = some (.string (B x.data)) ∧ w'.cell? ⟨wr.heap.size, 2, none⟩ = some (.int .i64 x.ver) ∧ w'.cell? ⟨wr.heap.size, 3, none⟩ = some (.int .i64 x.turn) ∧ w'.cell? ⟨wr.heap.size, 4, none⟩ = some (.int .i64 x.own))) (by kernel_rfl) ?_ (fun hHeld => ?_)
     ·exact ⟨HB.out.2.c0, HB.out.2.c1, HB.out.2.c2, HB.out.2.c3, HB.out.2.c4⟩
     refine tk 0 (v := ?_) hHeld (fun w hSw => ?_) ?_; rotate_left
     ·(try dsimp only at hSw); obtain ⟨s0, s1, s2, s3, s4⟩ := hSw; go_simp; try with_reducible rfl
     try simp only [zP, zN, zS, zT, zU]
     refine wpAnyH_ready (rs := [1]) (by kernel_rfl) (by simp) ?_
     refine AllReadyH.cons (o := ?ob251) ?hb251 (fun K hK => ?_) AllReadyH.nil
     case hb251 => simp only [zA, zB, zC] <;> exact rfl
     go_simp
     go_at_call 63
     refine (HFC.out _).mono ?_
     rintro e w1 ⟨rfl, f1⟩
     have b1 := HB.out.2.keep f1 (fun h => h)
     have HS1 := Lib.hid (And.intro b1.c0 (And.intro b1.c1 (And.intro b1.c2 (And.intro b1.c3 b1.c4))))
     have F := Lib.hid (HB.out.1.then f1)
     clear f1 b1
     go_wp2_with fail
     refine hK.out _ _ HS1.out (fun hHeld => ?_)
     clear hK K
     try simp only [zP, zN, zS, zT, zU]
     refine tk 2 (v := ?_) hHeld (fun w hSw => ?_) ?_; rotate_left
     ·(try dsimp only at hSw); obtain ⟨s0, s1, s2, s3, s4⟩ := hSw; go_simp; try with_reducible rfl
     try simp only [zP, zN, zS, zT, zU]
     refine tk 3 (v := ?_) hHeld (fun w hSw => ?_) ?_; rotate_left
     ·(try dsimp only at hSw); obtain ⟨s0, s1, s2, s3, s4⟩ := hSw; go_simp; try with_reducible rfl
     try simp only [zP, zN, zS, zT, zU]
     refine tk 4 (v := ?_) hHeld (fun w hSw => ?_) ?_; rotate_left
     ·(try dsimp only at hSw); obtain ⟨s0, s1, s2, s3, s4⟩ := hSw; go_simp; try with_reducible rfl
     try simp only [zP, zN, zS, zT, zU]
     refine tk 5 (v := ?_) hHeld (fun w hSw => ?_) ?_; rotate_left
     ·(try dsimp only at hSw); obtain ⟨s0, s1, s2, s3, s4⟩ := hSw; go_simp; try with_reducible rfl
     try simp only [zP, zN, zS, zT, zU]
     refine tk 6 (v := ?_) hHeld (fun w hSw => ?_) ?_; rotate_left
     ·(try dsimp only at hSw); obtain ⟨s0, s1, s2, s3, s4⟩ := hSw; go_simp; try with_reducible rfl
     try simp only [zP, zN, zS, zT, zU]
     refine sk 7 hHeld ?_
     try simp only [zP, zN, zS, zT, zU]
     refine sk 8 hHeld ?_
     try simp only [zP, zN, zS, zT, zU]
     refine sk 9 hHeld ?_
     try simp only [zP, zN, zS, zT, zU]
     refine sk 10 hHeld ?_
     try simp only [zP, zN, zS, zT, zU]
     refine sk 11 hHeld ?_
     try simp only [zP, zN, zS, zT, zU]
     refine sk 12 hHeld ?_
     try simp only [zP, zN, zS, zT, zU]
     refine sk 13 hHeld ?_
     try simp only [zP, zN, zS, zT, zU]
     refine sk 14 hHeld ?_
     try simp only [zP, zN, zS, zT, zU]
     refine sk 15 hHeld ?_
     try simp only [zP, zN, zS, zT, zU]
     refine sk 16 hHeld ?_
     try simp only [zP, zN, zS, zT, zU]
     refine tk 17 (v := ?_) hHeld (fun w hSw => ?_) ?_; rotate_left
     ·(try dsimp only at hSw); obtain ⟨s0, s1, s2, s3, s4⟩ := hSw; go_simp; try with_reducible rfl
     try simp only [zP, zN, zS, zT, zU]
     refine tk 18 (v := ?_) hHeld (fun w hSw => ?_) ?_; rotate_left
     ·(try dsimp only at hSw); obtain ⟨s0, s1, s2, s3, s4⟩ := hSw; go_simp; try with_reducible rfl
     try simp only [zP, zN, zS, zT, zU]
     refine wpAnyH_done (by kernel_rfl) ?_ _
     have hkn := HK.out
     go_wp2
     go_roundw
     case rel => exact ⟨0 + 1, by have := HK.out; omega, by go_num, ⟨HR0.out.then F.out, HNX.out⟩⟩
     case measure => have := HK.out; simp [RowKit.intOf]; omega
    ·obtain ⟨z, hz, hz2⟩ := HST.out.2.2.2.1 (k - 1) (by omega)
     have HP := Lib.hid (And.intro HST.out.2.2.1 hz)
     have hkm : k - 1 < s.nodes.length := by omega
     have HZ := Lib.hid (And.intro (hz2 hkm) (And.intro hk0 hkm))
     have wk : IntKind.i64.wrap ((k : Int) - 1) = ((k - 1 : Nat) : Int) := by rw [IntKind.wrap_i64]; omega
     have qz : ((0 : Int) < (k : Int)) = True := eq_true (by omega)
     have qz2 : (0 < k) = True := eq_true hk0
     have qn : (((k - 1 : Nat) : Int) < (n : Int)) = True := eq_true (by omega)
     have qn2 : (k - 1 < n) = True := eq_true (by omega)
     by_cases hle : (Op.bytesLess x.path z || x.path == z) = true
     ·have HNO := Lib.hid (HST.out.2.1 (.inr ⟨HZ.out.2.1, HZ.out.2.2, by rw [← HZ.out.1]; exact notUp hle⟩))
      clear hlt hk hk0 hz hz2
      go_wp2_with fail
      refine wp_region_held_drew (S := (fun w' => w'.cell? ⟨wr.heap.size, 0, none⟩ = some (.string (B x.path)) ∧ w'.cell? ⟨wr.heap.size, 1, none⟩ = some (.string (B x.data)) ∧ w'.cell? ⟨wr.heap.size, 2, none⟩ = some (.int .i64 x.ver) ∧ w'.cell? ⟨wr.heap.size, 3, none⟩ = some (.int .i64 x.turn) ∧ w'.cell? ⟨wr.heap.size, 4, none⟩ = some (.int .i64 x.own) ∧ w'.cell? ⟨w.heap.size, 0, none⟩ = some (.slice (some ⟨g, o, none⟩) n cap) ∧ w'.cell? ⟨g, o + (k - 1) * 5, none⟩ = some (.string (B z)))) (by kernel_rfl) ?_ (fun hHeld => ?_)
      ·exact ⟨HB.out.2.c0, HB.out.2.c1, HB.out.2.c2, HB.out.2.c3, HB.out.2.c4, HP.out.1, HP.out.2⟩
      refine tk 0 (v := ?_) hHeld (fun w hSw => ?_) ?_; rotate_left
      ·(try dsimp only at hSw); obtain ⟨s0, s1, s2, s3, s4, s5, s6⟩ := hSw; go_simp; try with_reducible rfl
      try simp only [zP, zN, zS, zT, zU]
      refine wpAnyH_ready (rs := [1]) (by kernel_rfl) (by simp) ?_
      refine AllReadyH.cons (o := ?ob270) ?hb270 (fun K hK => ?_) AllReadyH.nil
      case hb270 => simp only [zA, zB, zC] <;> exact rfl
      go_simp
      go_at_call 63
      refine (HFC.out _).mono ?_
      rintro e w1 ⟨rfl, f1⟩
      have b1 := HB.out.2.keep f1 (fun h => h)
      have HS1 := Lib.hid (And.intro b1.c0 (And.intro b1.c1 (And.intro b1.c2 (And.intro b1.c3 (And.intro b1.c4 (And.intro (f1.cell HP.out.1 (fun h => h)) (f1.cell HP.out.2 (fun h => h))))))))
      have F := Lib.hid (HB.out.1.then f1)
      clear f1 b1
      go_wp2_with fail
      refine hK.out _ _ HS1.out (fun hHeld => ?_)
      clear hK K
      try simp only [zP, zN, zS, zT, zU]
      refine tk 2 (v := ?_) hHeld (fun w hSw => ?_) ?_; rotate_left
      ·(try dsimp only at hSw); obtain ⟨s0, s1, s2, s3, s4, s5, s6⟩ := hSw; go_simp; try with_reducible rfl
      try simp only [zP, zN, zS, zT, zU]
      refine tk 3 (v := ?_) hHeld (fun w hSw => ?_) ?_; rotate_left
      ·(try dsimp only at hSw); obtain ⟨s0, s1, s2, s3, s4, s5, s6⟩ := hSw; go_simp; try with_reducible rfl
      try simp only [zP, zN, zS, zT, zU]
      refine tk 4 (v := ?_) hHeld (fun w hSw => ?_) ?_; rotate_left
      ·(try dsimp only at hSw); obtain ⟨s0, s1, s2, s3, s4, s5, s6⟩ := hSw; go_simp; try with_reducible rfl
      try simp only [zP, zN, zS, zT, zU]
      refine tk 5 (v := ?_) hHeld (fun w hSw => ?_) ?_; rotate_left
      ·(try dsimp only at hSw); obtain ⟨s0, s1, s2, s3, s4, s5, s6⟩ := hSw; go_simp; try with_reducible rfl
      try simp only [zP, zN, zS, zT, zU]
      refine tk 6 (v := ?_) hHeld (fun w hSw => ?_) ?_; rotate_left
      ·(try dsimp only at hSw); obtain ⟨s0, s1, s2, s3, s4, s5, s6⟩ := hSw; go_simp; try with_reducible rfl
      try simp only [zP, zN, zS, zT, zU]
      refine tk 7 (v := ?_) hHeld (fun w hSw => ?_) ?_; rotate_left
      ·(try dsimp only at hSw); obtain ⟨s0, s1, s2, s3, s4, s5, s6⟩ := hSw; go_simp; try with_reducible rfl
      try simp only [zP, zN, zS, zT, zU]
      refine tk 8 (v := ?_) hHeld (fun w hSw => ?_) ?_; rotate_left
      ·(try dsimp only at hSw); obtain ⟨s0, s1, s2, s3, s4, s5, s6⟩ := hSw; go_simp; try with_reducible rfl
      try simp only [zP, zN, zS, zT, zU]
      refine tk 9 (v := ?_) hHeld (fun w hSw => ?_) ?_; rotate_left
      ·(try dsimp only at hSw); obtain ⟨s0, s1, s2, s3, s4, s5, s6⟩ := hSw; go_simp; try with_reducible rfl
      try simp only [zP, zN, zS, zT, zU]
      refine tk 10 (v := ?_) hHeld (fun w hSw => ?_) ?_; rotate_left
      ·(try dsimp only at hSw); obtain ⟨s0, s1, s2, s3, s4, s5, s6⟩ := hSw; go_simp; try with_reducible rfl
      try simp only [zP, zN, zS, zT, zU]
      refine tk 11 (v := ?_) hHeld (fun w hSw => ?_) ?_; rotate_left
      ·(try dsimp only at hSw); obtain ⟨s0, s1, s2, s3, s4, s5, s6⟩ := hSw; go_simp; try with_reducible rfl
      try simp only [zP, zN, zS, zT, zU]
      refine tk 12 (v := ?_) hHeld (fun w hSw => ?_) ?_; rotate_left
      ·(try dsimp only at hSw); obtain ⟨s0, s1, s2, s3, s4, s5, s6⟩ := hSw; go_simp; try with_reducible rfl
      try simp only [zP, zN, zS, zT, zU]
      refine tk 13 (v := ?_) hHeld (fun w hSw => ?_) ?_; rotate_left
      ·(try dsimp only at hSw); obtain ⟨s0, s1, s2, s3, s4, s5, s6⟩ := hSw; go_simp; try with_reducible rfl
      try simp only [zP, zN, zS, zT, zU]
      refine tk 14 (v := ?_) hHeld (fun w hSw => ?_) ?_; rotate_left
      ·(try dsimp only at hSw); obtain ⟨s0, s1, s2, s3, s4, s5, s6⟩ := hSw; go_simp; try with_reducible rfl
      try simp only [zP, zN, zS, zT, zU]
      refine tk 15 (v := ?_) hHeld (fun w hSw => ?_) ?_; rotate_left
      ·(try dsimp only at hSw); obtain ⟨s0, s1, s2, s3, s4, s5, s6⟩ := hSw; go_simp; try with_reducible rfl
      try simp only [zP, zN, zS, zT, zU]
      refine tk 16 (v := ?_) hHeld (fun w hSw => ?_) ?_; rotate_left
      ·(try dsimp only at hSw); obtain ⟨s0, s1, s2, s3, s4, s5, s6⟩ := hSw; go_simp; try with_reducible rfl
      try simp only [zP, zN, zS, zT, zU]
      refine tk 17 (v := ?_) hHeld (fun w hSw => ?_) ?_; rotate_left
      ·(try dsimp only at hSw); obtain ⟨s0, s1, s2, s3, s4, s5, s6⟩ := hSw; go_simp; try with_reducible rfl
      try simp only [zP, zN, zS, zT, zU]
      refine tk 18 (v := ?_) hHeld (fun w hSw => ?_) ?_; rotate_left
      ·(try dsimp only at hSw); obtain ⟨s0, s1, s2, s3, s4, s5, s6⟩ := hSw; go_simp; try with_reducible rfl
      try simp only [zP, zN, zS, zT, zU]
      refine wpAnyH_done (by kernel_rfl) ?_ _
      go_wp2
      go_ret
      exact ⟨ret_bool HNO.out.symm, HW.out.then F.out⟩
     ·have hle' : (Op.bytesLess x.path z || x.path == z) = false := by simpa using hle
      have HNX := Lib.hid (HST.out.1 rfl (fun _ h => by rw [← HZ.out.1]; exact isUp hle'))
      clear hlt hk hk0 hz hz2 hle
      go_wp2_with fail
      refine wp_region_held_drew (S := (fun w' => w'.cell? ⟨wr.heap.size, 0, none⟩ = some (.string (B x.path)) ∧ w'.cell? ⟨wr.heap.size, 1, none⟩ = some (.string (B x.data)) ∧ w'.cell? ⟨wr.heap.size, 2, none⟩ = some (.int .i64 x.ver) ∧ w'.cell? ⟨wr.heap.size, 3, none⟩ = some (.int .i64 x.turn) ∧ w'.cell? ⟨wr.heap.size, 4, none⟩ = some (.int .i64 x.own) ∧ w'.cell? ⟨w.heap.size, 0, none⟩ = some (.slice (some ⟨g, o, none⟩) n cap) ∧ w'.cell? ⟨g, o + (k - 1) * 5, none⟩ = some (.string (B z)))) (by kernel_rfl) ?_ (fun hHeld => ?_)
      ·exact ⟨HB.out.2.c0, HB.out.2.c1, HB.out.2.c2, HB.out.2.c3, HB.out.2.c4, HP.out.1, HP.out.2⟩
      refine tk 0 (v := ?_) hHeld (fun w hSw => ?_) ?_; rotate_left
      ·(try dsimp only at hSw); obtain ⟨s0, s1, s2, s3, s4, s5, s6⟩ := hSw; go_simp; try with_reducible rfl
      try simp only [zP, zN, zS, zT, zU]
      refine wpAnyH_ready (rs := [1]) (by kernel_rfl) (by simp) ?_
      refine AllReadyH.cons (o := ?ob289) ?hb289 (fun K hK => ?_) AllReadyH.nil
      case hb289 => simp only [zA, zB, zC] <;> exact rfl
      go_simp
      go_at_call 63
      refine (HFC.out _).mono ?_
      rintro e w1 ⟨rfl, f1⟩
      have b1 := HB.out.2.keep f1 (fun h => h)
      have HS1 := Lib.hid (And.intro b1.c0 (And.intro b1.c1 (And.intro b1.c2 (And.intro b1.c3 (And.intro b1.c4 (And.intro (f1.cell HP.out.1 (fun h => h)) (f1.cell HP.out.2 (fun h => h))))))))
      have F := Lib.hid (HB.out.1.then f1)
      clear f1 b1
      go_wp2_with fail
      refine hK.out _ _ HS1.out (fun hHeld => ?_)
      clear hK K
      try simp only [zP, zN, zS, zT, zU]
      refine tk 2 (v := ?_) hHeld (fun w hSw => ?_) ?_; rotate_left
      ·(try dsimp only at hSw); obtain ⟨s0, s1, s2, s3, s4, s5, s6⟩ := hSw; go_simp; try with_reducible rfl
      try simp only [zP, zN, zS, zT, zU]
      refine tk 3 (v := ?_) hHeld (fun w hSw => ?_) ?_; rotate_left
      ·(try dsimp only at hSw); obtain ⟨s0, s1, s2, s3, s4, s5, s6⟩ := hSw; go_simp; try with_reducible rfl
      try simp only [zP, zN, zS, zT, zU]
      refine tk 4 (v := ?_) hHeld (fun w hSw => ?_) ?_; rotate_left
      ·(try dsimp only at hSw); obtain ⟨s0, s1, s2, s3, s4, s5, s6⟩ := hSw; go_simp; try with_reducible rfl
      try simp only [zP, zN, zS, zT, zU]
      refine tk 5 (v := ?_) hHeld (fun w hSw => ?_) ?_; rotate_left
      ·(try dsimp only at hSw); obtain ⟨s0, s1, s2, s3, s4, s5, s6⟩ := hSw; go_simp; try with_reducible rfl
      try simp only [zP, zN, zS, zT, zU]
      refine tk 6 (v := ?_) hHeld (fun w hSw => ?_) ?_; rotate_left
      ·(try dsimp only at hSw); obtain ⟨s0, s1, s2, s3, s4, s5, s6⟩ := hSw; go_simp; try with_reducible rfl
      try simp only [zP, zN, zS, zT, zU]
      refine tk 7 (v := ?_) hHeld (fun w hSw => ?_) ?_; rotate_left
      ·(try dsimp only at hSw); obtain ⟨s0, s1, s2, s3, s4, s5, s6⟩ := hSw; go_simp; try with_reducible rfl
      try simp only [zP, zN, zS, zT, zU]
      refine tk 8 (v := ?_) hHeld (fun w hSw => ?_) ?_; rotate_left
      ·(try dsimp only at hSw); obtain ⟨s0, s1, s2, s3, s4, s5, s6⟩ := hSw; go_simp; try with_reducible rfl
      try simp only [zP, zN, zS, zT, zU]
      refine tk 9 (v := ?_) hHeld (fun w hSw => ?_) ?_; rotate_left
      ·(try dsimp only at hSw); obtain ⟨s0, s1, s2, s3, s4, s5, s6⟩ := hSw; go_simp; try with_reducible rfl
      try simp only [zP, zN, zS, zT, zU]
      refine tk 10 (v := ?_) hHeld (fun w hSw => ?_) ?_; rotate_left
      ·(try dsimp only at hSw); obtain ⟨s0, s1, s2, s3, s4, s5, s6⟩ := hSw; go_simp; try with_reducible rfl
      try simp only [zP, zN, zS, zT, zU]
      refine tk 11 (v := ?_) hHeld (fun w hSw => ?_) ?_; rotate_left
      ·(try dsimp only at hSw); obtain ⟨s0, s1, s2, s3, s4, s5, s6⟩ := hSw; go_simp; try with_reducible rfl
      try simp only [zP, zN, zS, zT, zU]
      refine tk 12 (v := ?_) hHeld (fun w hSw => ?_) ?_; rotate_left
      ·(try dsimp only at hSw); obtain ⟨s0, s1, s2, s3, s4, s5, s6⟩ := hSw; go_simp; try with_reducible rfl
      try simp only [zP, zN, zS, zT, zU]
      refine tk 13 (v := ?_) hHeld (fun w hSw => ?_) ?_; rotate_left
      ·(try dsimp only at hSw); obtain ⟨s0, s1, s2, s3, s4, s5, s6⟩ := hSw; go_simp; try with_reducible rfl
      try simp only [zP, zN, zS, zT, zU]
      refine tk 14 (v := ?_) hHeld (fun w hSw => ?_) ?_; rotate_left
      ·(try dsimp only at hSw); obtain ⟨s0, s1, s2, s3, s4, s5, s6⟩ := hSw; go_simp; try with_reducible rfl
      try simp only [zP, zN, zS, zT, zU]
      refine tk 15 (v := ?_) hHeld (fun w hSw => ?_) ?_; rotate_left
      ·(try dsimp only at hSw); obtain ⟨s0, s1, s2, s3, s4, s5, s6⟩ := hSw; go_simp; try with_reducible rfl
      try simp only [zP, zN, zS, zT, zU]
      refine tk 16 (v := ?_) hHeld (fun w hSw => ?_) ?_; rotate_left
      ·(try dsimp only at hSw); obtain ⟨s0, s1, s2, s3, s4, s5, s6⟩ := hSw; go_simp; try with_reducible rfl
      try simp only [zP, zN, zS, zT, zU]
      refine tk 17 (v := ?_) hHeld (fun w hSw => ?_) ?_; rotate_left
      ·(try dsimp only at hSw); obtain ⟨s0, s1, s2, s3, s4, s5, s6⟩ := hSw; go_simp; try with_reducible rfl
      try simp only [zP, zN, zS, zT, zU]
      refine tk 18 (v := ?_) hHeld (fun w hSw => ?_) ?_; rotate_left
      ·(try dsimp only at hSw); obtain ⟨s0, s1, s2, s3, s4, s5, s6⟩ := hSw; go_simp; try with_reducible rfl
      try simp only [zP, zN, zS, zT, zU]
      refine wpAnyH_done (by kernel_rfl) ?_ _
      have hkn := HK.out
      go_wp2
      go_roundw
      case rel => exact ⟨k + 1, by have := HK.out; omega, by go_num, ⟨HR0.out.then F.out, HNX.out⟩⟩
      case measure => have := HK.out; simp [RowKit.intOf]; omega
  ·have hke : k = n := by omega
   subst hke
   have q3 : ((k : Int) < (k : Int)) = False := eq_false (by omega)
   have t1 := hR.out.1.cell HB0.out.2 (fun h => h)
   clear hlt hk
   go_wp2_with fail
   have HN9 := Lib.hid (chkN_all (fun j hj => hR.out.2 j hj (by rw [HX.out.1]; exact hj)))
   have HNoT := Lib.hid (show ∀ i (hi : i < s.turns.length), ¬ ChkT s.turns i hi → r = false from fun i hi h => by rw [← HT.out.2.2.2]; exact rightS_false (fun c => h (chkT_right c i hi)))
   obtain ⟨W1, hW1⟩ : ∃ W1, W1 = wr := ⟨_, rfl⟩
   have HF1 := Lib.hid (HF0.out.then hR.out.1)
   have T1 := Lib.hid t1
   rw [← hW1] at HF1 T1 ⊢
   clear hW1 hR t1 HB0
   go_loopw [38] (fun i wr2 => ∃ k : Nat, k ≤ m ∧ i = .int .i64 k ∧ Hid (Fp Non W1 wr2 ∧ ∀ j (hj : j < s.turns.length), j < k → ChkT s.turns j hj)) (fun i _ => m - (RowKit.intOf i).toNat)
   case atStart => exact ⟨0, Nat.zero_le _, rfl, Fp.refl _ _, fun j _ h => absurd h (Nat.not_lt_zero j)⟩
   case round =>
    obtain ⟨k, hk, rfl, hR⟩ := hrel
    rename World => wr2
    by_cases hlt : k < m
    ·have hkl : k < s.turns.length := by rw [← HT.out.1]; exact hlt
     obtain ⟨g, o, cap', e, _, _, _, hcell⟩ := HT.out.2.1.at (by omega)
     injection e with e1 e2 e3
     subst e1 e3
     have f0 := HF1.out.then hR.out.1
     have hnd := (hcell k hkl).keep f0 (fun h => h)
     obtain ⟨x, hx⟩ : ∃ x, x = s.turns[k] := ⟨_, rfl⟩
     rw [← hx] at hnd
     have c0 := hnd.c0; have c1 := hnd.c1
     unfold strV at c0
     have q3 : ((k : Int) < (m : Int)) = True := eq_true (by omega)
     have q4 : (k < m) = True := eq_true hlt
     have hxp : x.dir.length ≤ 1000000 := HT.out.2.2.1 x (by rw [hx]; exact List.getElem_mem hkl)
     have hri := fun w => Right_g x.dir w (sz_of hxp (by omega))
     have hwi := fun w b h => withinP_d x.next 1 10000 w b h
     have hbb := bxT wr2 x
     have HB := Lib.hid (And.intro (((Fp.refl Non wr2).alloc (Obj.cells #[.string (B x.dir), .int .i64 x.next] TU)).drew) hbb)
     have HW := Lib.hid (f0)
     have HR0 := Lib.hid hR.out.1
     have HK := Lib.hid hlt
     have hst : (wr2.alloc (Obj.cells #[.string (B x.dir), .int .i64 x.next] TU)).drew.cell? ⟨w.heap.size, 1, none⟩ = some (.slice (some ⟨g, o, none⟩) m capt) := HB.out.1.cell (hR.out.1.cell T1.out (fun h => h)) (fun h => h)
     have hpc : ∀ k', k' < s.turns.length → ∃ z, (wr2.alloc (Obj.cells #[.string (B x.dir), .int .i64 x.next] TU)).drew.cell? ⟨g, o + k' * 2, none⟩ = some (.string (B z)) ∧ ∀ h : k' < s.turns.length, z = (s.turns[k']).dir := fun k' h => ⟨_, HB.out.1.cell ((hcell k' h).keep f0 (fun h => h)).c0 (fun h => h), fun _ => rfl⟩
     have hold := hR.out.2
     obtain ⟨sp, hsp⟩ : ∃ b, (split x.dir).isSome = b := ⟨_, rfl⟩
     obtain ⟨b1, hb1⟩ : ∃ b, decide (1 ≤ x.next ∧ x.next ≤ 10000) = b := ⟨_, rfl⟩
     have hfit : tfit x = (sp && b1) := by rw [← hsp, ← hb1]; rfl
     have hstep : (sp && b1) = true → (0 < k → ∀ h : k - 1 < s.turns.length, lt (s.turns[k-1]).dir x.dir = true) → ∀ j (hj : j < s.turns.length), j < k + 1 → ChkT s.turns j hj := fun a b j hj hjk => by
      rcases Nat.lt_or_eq_of_le (show j ≤ k by omega) with e | e
      ·exact hold j hj e
      ·subst e; exact ⟨by rw [← hx, hfit]; exact a, fun h0 h1 => by rw [← hx]; exact b h0 h1⟩
     have hno : ((sp && b1) = false ∨ (0 < k ∧ ∃ h : k - 1 < s.turns.length, lt (s.turns[k-1]).dir x.dir = false)) → r = false := fun h => HNoT.out k hkl (fun c => by
      rcases h with h | ⟨h0, h1, h2⟩
      ·have := c.1; rw [← hx, hfit, h] at this; cases this
      ·have := c.2 h0 h1; rw [← hx, h2] at this; cases this)
     rw [hsp] at hri
     have HRI := Lib.hid hri
     have HWI := Lib.hid (fun w => hwi w b1 hb1)
     have HST := Lib.hid (And.intro hstep (And.intro hno (And.intro hst (And.intro hpc hkl))))
     clear hri hwi hbb hst hpc hold hstep hno hfit hsp hb1 hxp hx hnd hcell f0
     cases sp with
     | false =>
      have HNO := Lib.hid (HST.out.2.1 (.inl rfl))
      clear hkl hlt hk
      go_wp2_with fail
      refine wp_region_held_drew (S := (fun w' => w'.cell? ⟨wr2.heap.size, 0, none⟩ = some (.string (B x.dir)) ∧ w'.cell? ⟨wr2.heap.size, 1, none⟩ = some (.int .i64 x.next))) (by kernel_rfl) ?_ (fun hHeld => ?_)
      ·exact ⟨HB.out.2.c0, HB.out.2.c1⟩
      refine tk 0 (v := ?_) hHeld (fun w hSw => ?_) ?_; rotate_left
      ·(try dsimp only at hSw); obtain ⟨s0, s1⟩ := hSw; go_simp; try with_reducible rfl
      try simp only [zP, zN, zS, zT, zU]
      refine tk 1 (v := ?_) hHeld (fun w hSw => ?_) ?_; rotate_left
      ·(try dsimp only at hSw); obtain ⟨s0, s1⟩ := hSw; go_simp; try with_reducible rfl
      try simp only [zP, zN, zS, zT, zU]
      refine wpAnyH_ready (rs := [2]) (by kernel_rfl) (by simp) ?_
      refine AllReadyH.cons (o := ?ob103) ?hb103 (fun K hK => ?_) AllReadyH.nil
      case hb103 => simp only [zA, zB, zC] <;> exact rfl
      go_simp
      go_at_call 64
      refine (HRI.out _).mono ?_
      rintro e w1 ⟨rfl, f1⟩
      have b1 := HB.out.2.keep f1.fp (fun h => h)
      have HS1 := Lib.hid (And.intro b1.c0 b1.c1)
      have F := Lib.hid (HB.out.1.then f1.fp)
      clear f1 b1
      go_wp2_with fail
      refine hK.out _ _ HS1.out (fun hHeld => ?_)
      clear hK K
      try simp only [zP, zN, zS, zT, zU]
      refine tk 3 (v := ?_) hHeld (fun w hSw => ?_) ?_; rotate_left
      ·(try dsimp only at hSw); obtain ⟨s0, s1⟩ := hSw; go_simp; try with_reducible rfl
      try simp only [zP, zN, zS, zT, zU]
      refine tk 4 (v := ?_) hHeld (fun w hSw => ?_) ?_; rotate_left
      ·(try dsimp only at hSw); obtain ⟨s0, s1⟩ := hSw; go_simp; try with_reducible rfl
      try simp only [zP, zN, zS, zT, zU]
      refine sk 5 hHeld ?_
      try simp only [zP, zN, zS, zT, zU]
      refine sk 6 hHeld ?_
      try simp only [zP, zN, zS, zT, zU]
      refine sk 7 hHeld ?_
      try simp only [zP, zN, zS, zT, zU]
      refine sk 8 hHeld ?_
      try simp only [zP, zN, zS, zT, zU]
      refine tk 9 (v := ?_) hHeld (fun w hSw => ?_) ?_; rotate_left
      ·(try dsimp only at hSw); obtain ⟨s0, s1⟩ := hSw; go_simp; try with_reducible rfl
      try simp only [zP, zN, zS, zT, zU]
      refine tk 10 (v := ?_) hHeld (fun w hSw => ?_) ?_; rotate_left
      ·(try dsimp only at hSw); obtain ⟨s0, s1⟩ := hSw; go_simp; try with_reducible rfl
      try simp only [zP, zN, zS, zT, zU]
      refine sk 11 hHeld ?_
      try simp only [zP, zN, zS, zT, zU]
      refine sk 12 hHeld ?_
      try simp only [zP, zN, zS, zT, zU]
      refine sk 13 hHeld ?_
      try simp only [zP, zN, zS, zT, zU]
      refine sk 14 hHeld ?_
      try simp only [zP, zN, zS, zT, zU]
      refine sk 15 hHeld ?_
      try simp only [zP, zN, zS, zT, zU]
      refine sk 16 hHeld ?_
      try simp only [zP, zN, zS, zT, zU]
      refine sk 17 hHeld ?_
      try simp only [zP, zN, zS, zT, zU]
      refine sk 18 hHeld ?_
      try simp only [zP, zN, zS, zT, zU]
      refine sk 19 hHeld ?_
      try simp only [zP, zN, zS, zT, zU]
      refine sk 20 hHeld ?_
      try simp only [zP, zN, zS, zT, zU]
      refine sk 21 hHeld ?_
      try simp only [zP, zN, zS, zT, zU]
      refine sk 22 hHeld ?_
      try simp only [zP, zN, zS, zT, zU]
      refine sk 23 hHeld ?_
      try simp only [zP, zN, zS, zT, zU]
      refine sk 24 hHeld ?_
      try simp only [zP, zN, zS, zT, zU]
      refine tk 25 (v := ?_) hHeld (fun w hSw => ?_) ?_; rotate_left
      ·(try dsimp only at hSw); obtain ⟨s0, s1⟩ := hSw; go_simp; try with_reducible rfl
      try simp only [zP, zN, zS, zT, zU]
      refine wpAnyH_done (by kernel_rfl) ?_ _
      go_wp2
      go_ret
      exact ⟨ret_bool HNO.out.symm, HW.out.then F.out⟩
     | true =>
      cases b1 with
      | false =>
       have HNO := Lib.hid (HST.out.2.1 (.inl rfl))
       clear hkl hlt hk
       go_wp2_with fail
       refine wp_region_held_drew (S := (fun w' => w'.cell? ⟨wr2.heap.size, 0, none⟩ = some (.string (B x.dir)) ∧ w'.cell? ⟨wr2.heap.size, 1, none⟩ = some (.int .i64 x.next))) (by kernel_rfl) ?_ (fun hHeld => ?_)
       ·exact ⟨HB.out.2.c0, HB.out.2.c1⟩
       refine tk 0 (v := ?_) hHeld (fun w hSw => ?_) ?_; rotate_left
       ·(try dsimp only at hSw); obtain ⟨s0, s1⟩ := hSw; go_simp; try with_reducible rfl
       try simp only [zP, zN, zS, zT, zU]
       refine tk 1 (v := ?_) hHeld (fun w hSw => ?_) ?_; rotate_left
       ·(try dsimp only at hSw); obtain ⟨s0, s1⟩ := hSw; go_simp; try with_reducible rfl
       try simp only [zP, zN, zS, zT, zU]
       refine wpAnyH_ready (rs := [2]) (by kernel_rfl) (by simp) ?_
       refine AllReadyH.cons (o := ?ob129) ?hb129 (fun K hK => ?_) AllReadyH.nil
       case hb129 => simp only [zA, zB, zC] <;> exact rfl
       go_simp
       go_at_call 64
       refine (HRI.out _).mono ?_
       rintro e w1 ⟨rfl, f1⟩
       have b1 := HB.out.2.keep f1.fp (fun h => h)
       have HS1 := Lib.hid (And.intro b1.c0 b1.c1)
       have F := Lib.hid (HB.out.1.then f1.fp)
       clear f1 b1
       go_wp2_with fail
       refine hK.out _ _ HS1.out (fun hHeld => ?_)
       clear hK K
       try simp only [zP, zN, zS, zT, zU]
       refine tk 3 (v := ?_) hHeld (fun w hSw => ?_) ?_; rotate_left
       ·(try dsimp only at hSw); obtain ⟨s0, s1⟩ := hSw; go_simp; try with_reducible rfl
       try simp only [zP, zN, zS, zT, zU]
       refine tk 4 (v := ?_) hHeld (fun w hSw => ?_) ?_; rotate_left
       ·(try dsimp only at hSw); obtain ⟨s0, s1⟩ := hSw; go_simp; try with_reducible rfl
       try simp only [zP, zN, zS, zT, zU]
       refine tk 5 (v := ?_) hHeld (fun w hSw => ?_) ?_; rotate_left
       ·(try dsimp only at hSw); obtain ⟨s0, s1⟩ := hSw; go_simp; try with_reducible rfl
       try simp only [zP, zN, zS, zT, zU]
       refine tk 6 (v := ?_) hHeld (fun w hSw => ?_) ?_; rotate_left
       ·(try dsimp only at hSw); obtain ⟨s0, s1⟩ := hSw; go_simp; try with_reducible rfl
       try simp only [zP, zN, zS, zT, zU]
       refine wpAnyH_ready (rs := [7]) (by kernel_rfl) (by simp) ?_
       refine AllReadyH.cons (o := ?ob134) ?hb134 (fun K hK => ?_) AllReadyH.nil
       case hb134 => simp only [zA, zB, zC] <;> exact rfl
       go_simp
       go_at_call 65
       refine (HWI.out _).mono ?_
       rintro e w2 ⟨rfl, rfl⟩
       go_wp2_with fail
       refine hK.out _ _ HS1.out (fun hHeld => ?_)
       clear hK K
       try simp only [zP, zN, zS, zT, zU]
       refine tk 8 (v := ?_) hHeld (fun w hSw => ?_) ?_; rotate_left
       ·(try dsimp only at hSw); obtain ⟨s0, s1⟩ := hSw; go_simp; try with_reducible rfl
       try simp only [zP, zN, zS, zT, zU]
       refine tk 9 (v := ?_) hHeld (fun w hSw => ?_) ?_; rotate_left
       ·(try dsimp only at hSw); obtain ⟨s0, s1⟩ := hSw; go_simp; try with_reducible rfl
       try simp only [zP, zN, zS, zT, zU]
       refine tk 10 (v := ?_) hHeld (fun w hSw => ?_) ?_; rotate_left
       ·(try dsimp only at hSw); obtain ⟨s0, s1⟩ := hSw; go_simp; try with_reducible rfl
       try simp only [zP, zN, zS, zT, zU]
       refine sk 11 hHeld ?_
       try simp only [zP, zN, zS, zT, zU]
       refine sk 12 hHeld ?_
       try simp only [zP, zN, zS, zT, zU]
       refine sk 13 hHeld ?_
       try simp only [zP, zN, zS, zT, zU]
       refine sk 14 hHeld ?_
       try simp only [zP, zN, zS, zT, zU]
       refine sk 15 hHeld ?_
       try simp only [zP, zN, zS, zT, zU]
       refine sk 16 hHeld ?_
       try simp only [zP, zN, zS, zT, zU]
       refine sk 17 hHeld ?_
       try simp only [zP, zN, zS, zT, zU]
       refine sk 18 hHeld ?_
       try simp only [zP, zN, zS, zT, zU]
       refine sk 19 hHeld ?_
       try simp only [zP, zN, zS, zT, zU]
       refine sk 20 hHeld ?_
       try simp only [zP, zN, zS, zT, zU]
       refine sk 21 hHeld ?_
       try simp only [zP, zN, zS, zT, zU]
       refine sk 22 hHeld ?_
       try simp only [zP, zN, zS, zT, zU]
       refine sk 23 hHeld ?_
       try simp only [zP, zN, zS, zT, zU]
       refine sk 24 hHeld ?_
       try simp only [zP, zN, zS, zT, zU]
       refine tk 25 (v := ?_) hHeld (fun w hSw => ?_) ?_; rotate_left
       ·(try dsimp only at hSw); obtain ⟨s0, s1⟩ := hSw; go_simp; try with_reducible rfl
       try simp only [zP, zN, zS, zT, zU]
       refine wpAnyH_done (by kernel_rfl) ?_ _
       go_wp2
       go_ret
       exact ⟨ret_bool HNO.out.symm, HW.out.then F.out⟩
      | true =>
       rcases Nat.eq_zero_or_pos k with hk0 | hk0
       ·subst hk0
        simp only [Nat.zero_mul, Nat.add_zero] at c0 c1
        have HNX := Lib.hid (HST.out.1 rfl (fun h => absurd h (by omega)))
        clear hkl hlt hk
        go_wp2_with fail
        refine wp_region_held_drew (S := (fun w' => w'.cell? ⟨wr2.heap.size, 0, none⟩ = some (.string (B x.dir)) ∧ w'.cell? ⟨wr2.heap.size, 1, none⟩ = some (.int .i64 x.next))) (by kernel_rfl) ?_ (fun hHeld => ?_)
        ·exact ⟨HB.out.2.c0, HB.out.2.c1⟩
        refine tk 0 (v := ?_) hHeld (fun w hSw => ?_) ?_; rotate_left
        ·(try dsimp only at hSw); obtain ⟨s0, s1⟩ := hSw; go_simp; try with_reducible rfl
        try simp only [zP, zN, zS, zT, zU]
        refine tk 1 (v := ?_) hHeld (fun w hSw => ?_) ?_; rotate_left
        ·(try dsimp only at hSw); obtain ⟨s0, s1⟩ := hSw; go_simp; try with_reducible rfl
        try simp only [zP, zN, zS, zT, zU]
        refine wpAnyH_ready (rs := [2]) (by kernel_rfl) (by simp) ?_
        refine AllReadyH.cons (o := ?ob155) ?hb155 (fun K hK => ?_) AllReadyH.nil
        case hb155 => simp only [zA, zB, zC] <;> exact rfl
        go_simp
        go_at_call 64
        refine (HRI.out _).mono ?_
        rintro e w1 ⟨rfl, f1⟩
        have b1 := HB.out.2.keep f1.fp (fun h => h)
        have HS1 := Lib.hid (And.intro b1.c0 b1.c1)
        have F := Lib.hid (HB.out.1.then f1.fp)
        clear f1 b1
        go_wp2_with fail
        refine hK.out _ _ HS1.out (fun hHeld => ?_)
        clear hK K
        try simp only [zP, zN, zS, zT, zU]
        refine tk 3 (v := ?_) hHeld (fun w hSw => ?_) ?_; rotate_left
        ·(try dsimp only at hSw); obtain ⟨s0, s1⟩ := hSw; go_simp; try with_reducible rfl
        try simp only [zP, zN, zS, zT, zU]
        refine tk 4 (v := ?_) hHeld (fun w hSw => ?_) ?_; rotate_left
        ·(try dsimp only at hSw); obtain ⟨s0, s1⟩ := hSw; go_simp; try with_reducible rfl
        try simp only [zP, zN, zS, zT, zU]
        refine tk 5 (v := ?_) hHeld (fun w hSw => ?_) ?_; rotate_left
        ·(try dsimp only at hSw); obtain ⟨s0, s1⟩ := hSw; go_simp; try with_reducible rfl
        try simp only [zP, zN, zS, zT, zU]
        refine tk 6 (v := ?_) hHeld (fun w hSw => ?_) ?_; rotate_left
        ·(try dsimp only at hSw); obtain ⟨s0, s1⟩ := hSw; go_simp; try with_reducible rfl
        try simp only [zP, zN, zS, zT, zU]
        refine wpAnyH_ready (rs := [7]) (by kernel_rfl) (by simp) ?_
        refine AllReadyH.cons (o := ?ob160) ?hb160 (fun K hK => ?_) AllReadyH.nil
        case hb160 => simp only [zA, zB, zC] <;> exact rfl
        go_simp
        go_at_call 65
        refine (HWI.out _).mono ?_
        rintro e w2 ⟨rfl, rfl⟩
        go_wp2_with fail
        refine hK.out _ _ HS1.out (fun hHeld => ?_)
        clear hK K
        try simp only [zP, zN, zS, zT, zU]
        refine tk 8 (v := ?_) hHeld (fun w hSw => ?_) ?_; rotate_left
        ·(try dsimp only at hSw); obtain ⟨s0, s1⟩ := hSw; go_simp; try with_reducible rfl
        try simp only [zP, zN, zS, zT, zU]
        refine tk 9 (v := ?_) hHeld (fun w hSw => ?_) ?_; rotate_left
        ·(try dsimp only at hSw); obtain ⟨s0, s1⟩ := hSw; go_simp; try with_reducible rfl
        try simp only [zP, zN, zS, zT, zU]
        refine tk 10 (v := ?_) hHeld (fun w hSw => ?_) ?_; rotate_left
        ·(try dsimp only at hSw); obtain ⟨s0, s1⟩ := hSw; go_simp; try with_reducible rfl
        try simp only [zP, zN, zS, zT, zU]
        refine tk 11 (v := ?_) hHeld (fun w hSw => ?_) ?_; rotate_left
        ·(try dsimp only at hSw); obtain ⟨s0, s1⟩ := hSw; go_simp; try with_reducible rfl
        try simp only [zP, zN, zS, zT, zU]
        refine tk 12 (v := ?_) hHeld (fun w hSw => ?_) ?_; rotate_left
        ·(try dsimp only at hSw); obtain ⟨s0, s1⟩ := hSw; go_simp; try with_reducible rfl
        try simp only [zP, zN, zS, zT, zU]
        refine tk 13 (v := ?_) hHeld (fun w hSw => ?_) ?_; rotate_left
        ·(try dsimp only at hSw); obtain ⟨s0, s1⟩ := hSw; go_simp; try with_reducible rfl
        try simp only [zP, zN, zS, zT, zU]
        refine sk 14 hHeld ?_
        try simp only [zP, zN, zS, zT, zU]
        refine sk 15 hHeld ?_
        try simp only [zP, zN, zS, zT, zU]
        refine sk 16 hHeld ?_
        try simp only [zP, zN, zS, zT, zU]
        refine sk 17 hHeld ?_
        try simp only [zP, zN, zS, zT, zU]
        refine sk 18 hHeld ?_
        try simp only [zP, zN, zS, zT, zU]
        refine sk 19 hHeld ?_
        try simp only [zP, zN, zS, zT, zU]
        refine sk 20 hHeld ?_
        try simp only [zP, zN, zS, zT, zU]
        refine sk 21 hHeld ?_
        try simp only [zP, zN, zS, zT, zU]
        refine sk 22 hHeld ?_
        try simp only [zP, zN, zS, zT, zU]
        refine sk 23 hHeld ?_
        try simp only [zP, zN, zS, zT, zU]
        refine tk 24 (v := ?_) hHeld (fun w hSw => ?_) ?_; rotate_left
        ·(try dsimp only at hSw); obtain ⟨s0, s1⟩ := hSw; go_simp; try with_reducible rfl
        try simp only [zP, zN, zS, zT, zU]
        refine tk 25 (v := ?_) hHeld (fun w hSw => ?_) ?_; rotate_left
        ·(try dsimp only at hSw); obtain ⟨s0, s1⟩ := hSw; go_simp; try with_reducible rfl
        try simp only [zP, zN, zS, zT, zU]
        refine wpAnyH_done (by kernel_rfl) ?_ _
        have hkn := HK.out
        go_wp2
        go_roundw
        case rel => exact ⟨0 + 1, by have := HK.out; omega, by go_num, ⟨HR0.out.then F.out, HNX.out⟩⟩
        case measure => have := HK.out; simp [RowKit.intOf]; omega
       ·obtain ⟨z, hz, hz2⟩ := HST.out.2.2.2.1 (k - 1) (by omega)
        have HP := Lib.hid (And.intro HST.out.2.2.1 hz)
        have hkm : k - 1 < s.turns.length := by omega
        have HZ := Lib.hid (And.intro (hz2 hkm) (And.intro hk0 hkm))
        have wk : IntKind.i64.wrap ((k : Int) - 1) = ((k - 1 : Nat) : Int) := by rw [IntKind.wrap_i64]; omega
        have qz : ((0 : Int) < (k : Int)) = True := eq_true (by omega)
        have qz2 : (0 < k) = True := eq_true hk0
        have qn : (((k - 1 : Nat) : Int) < (m : Int)) = True := eq_true (by omega)
        have qn2 : (k - 1 < m) = True := eq_true (by omega)
        by_cases hle : (Op.bytesLess x.dir z || x.dir == z) = true
        ·have HNO := Lib.hid (HST.out.2.1 (.inr ⟨HZ.out.2.1, HZ.out.2.2, by rw [← HZ.out.1]; exact notUp hle⟩))
         clear hlt hk hk0 hz hz2
         go_wp2_with fail
         refine wp_region_held_drew (S := (fun w' => w'.cell? ⟨wr2.heap.size, 0, none⟩ = some (.string (B x.dir)) ∧ w'.cell? ⟨wr2.heap.size, 1, none⟩ = some (.int .i64 x.next) ∧ w'.cell? ⟨w.heap.size, 1, none⟩ = some (.slice (some ⟨g, o, none⟩) m capt) ∧ w'.cell? ⟨g, o + (k - 1) * 2, none⟩ = some (.string (B z)))) (by kernel_rfl) ?_ (fun hHeld => ?_)
         ·exact ⟨HB.out.2.c0, HB.out.2.c1, HP.out.1, HP.out.2⟩
         refine tk 0 (v := ?_) hHeld (fun w hSw => ?_) ?_; rotate_left
         ·(try dsimp only at hSw); obtain ⟨s0, s1, s2, s3⟩ := hSw; go_simp; try with_reducible rfl
         try simp only [zP, zN, zS, zT, zU]
         refine tk 1 (v := ?_) hHeld (fun w hSw => ?_) ?_; rotate_left
         ·(try dsimp only at hSw); obtain ⟨s0, s1, s2, s3⟩ := hSw; go_simp; try with_reducible rfl
         try simp only [zP, zN, zS, zT, zU]
         refine wpAnyH_ready (rs := [2]) (by kernel_rfl) (by simp) ?_
         refine AllReadyH.cons (o := ?ob181) ?hb181 (fun K hK => ?_) AllReadyH.nil
         case hb181 => simp only [zA, zB, zC] <;> exact rfl
         go_simp
         go_at_call 64
         refine (HRI.out _).mono ?_
         rintro e w1 ⟨rfl, f1⟩
         have b1 := HB.out.2.keep f1.fp (fun h => h)
         have HS1 := Lib.hid (And.intro b1.c0 (And.intro b1.c1 (And.intro (f1.fp.cell HP.out.1 (fun h => h)) (f1.fp.cell HP.out.2 (fun h => h)))))
         have F := Lib.hid (HB.out.1.then f1.fp)
         clear f1 b1
         go_wp2_with fail
         refine hK.out _ _ HS1.out (fun hHeld => ?_)
         clear hK K
         try simp only [zP, zN, zS, zT, zU]
         refine tk 3 (v := ?_) hHeld (fun w hSw => ?_) ?_; rotate_left
         ·(try dsimp only at hSw); obtain ⟨s0, s1, s2, s3⟩ := hSw; go_simp; try with_reducible rfl
         try simp only [zP, zN, zS, zT, zU]
         refine tk 4 (v := ?_) hHeld (fun w hSw => ?_) ?_; rotate_left
         ·(try dsimp only at hSw); obtain ⟨s0, s1, s2, s3⟩ := hSw; go_simp; try with_reducible rfl
         try simp only [zP, zN, zS, zT, zU]
         refine tk 5 (v := ?_) hHeld (fun w hSw => ?_) ?_; rotate_left
         ·(try dsimp only at hSw); obtain ⟨s0, s1, s2, s3⟩ := hSw; go_simp; try with_reducible rfl
         try simp only [zP, zN, zS, zT, zU]
         refine tk 6 (v := ?_) hHeld (fun w hSw => ?_) ?_; rotate_left
         ·(try dsimp only at hSw); obtain ⟨s0, s1, s2, s3⟩ := hSw; go_simp; try with_reducible rfl
         try simp only [zP, zN, zS, zT, zU]
         refine wpAnyH_ready (rs := [7]) (by kernel_rfl) (by simp) ?_
         refine AllReadyH.cons (o := ?ob186) ?hb186 (fun K hK => ?_) AllReadyH.nil
         case hb186 => simp only [zA, zB, zC] <;> exact rfl
         go_simp
         go_at_call 65
         refine (HWI.out _).mono ?_
         rintro e w2 ⟨rfl, rfl⟩
         go_wp2_with fail
         refine hK.out _ _ HS1.out (fun hHeld => ?_)
         clear hK K
         try simp only [zP, zN, zS, zT, zU]
         refine tk 8 (v := ?_) hHeld (fun w hSw => ?_) ?_; rotate_left
         ·(try dsimp only at hSw); obtain ⟨s0, s1, s2, s3⟩ := hSw; go_simp; try with_reducible rfl
         try simp only [zP, zN, zS, zT, zU]
         refine tk 9 (v := ?_) hHeld (fun w hSw => ?_) ?_; rotate_left
         ·(try dsimp only at hSw); obtain ⟨s0, s1, s2, s3⟩ := hSw; go_simp; try with_reducible rfl
         try simp only [zP, zN, zS, zT, zU]
         refine tk 10 (v := ?_) hHeld (fun w hSw => ?_) ?_; rotate_left
         ·(try dsimp only at hSw); obtain ⟨s0, s1, s2, s3⟩ := hSw; go_simp; try with_reducible rfl
         try simp only [zP, zN, zS, zT, zU]
         refine tk 11 (v := ?_) hHeld (fun w hSw => ?_) ?_; rotate_left
         ·(try dsimp only at hSw); obtain ⟨s0, s1, s2, s3⟩ := hSw; go_simp; try with_reducible rfl
         try simp only [zP, zN, zS, zT, zU]
         refine tk 12 (v := ?_) hHeld (fun w hSw => ?_) ?_; rotate_left
         ·(try dsimp only at hSw); obtain ⟨s0, s1, s2, s3⟩ := hSw; go_simp; try with_reducible rfl
         try simp only [zP, zN, zS, zT, zU]
         refine tk 13 (v := ?_) hHeld (fun w hSw => ?_) ?_; rotate_left
         ·(try dsimp only at hSw); obtain ⟨s0, s1, s2, s3⟩ := hSw; go_simp; try with_reducible rfl
         try simp only [zP, zN, zS, zT, zU]
         refine tk 14 (v := ?_) hHeld (fun w hSw => ?_) ?_; rotate_left
         ·(try dsimp only at hSw); obtain ⟨s0, s1, s2, s3⟩ := hSw; go_simp; try with_reducible rfl
         try simp only [zP, zN, zS, zT, zU]
         refine tk 15 (v := ?_) hHeld (fun w hSw => ?_) ?_; rotate_left
         ·(try dsimp only at hSw); obtain ⟨s0, s1, s2, s3⟩ := hSw; go_simp; try with_reducible rfl
         try simp only [zP, zN, zS, zT, zU]
         refine tk 16 (v := ?_) hHeld (fun w hSw => ?_) ?_; rotate_left
         ·(try dsimp only at hSw); obtain ⟨s0, s1, s2, s3⟩ := hSw; go_simp; try with_reducible rfl
         try simp only [zP, zN, zS, zT, zU]
         refine tk 17 (v := ?_) hHeld (fun w hSw => ?_) ?_; rotate_left
         ·(try dsimp only at hSw); obtain ⟨s0, s1, s2, s3⟩ := hSw; go_simp; try with_reducible rfl
         try simp only [zP, zN, zS, zT, zU]
         refine tk 18 (v := ?_) hHeld (fun w hSw => ?_) ?_; rotate_left
         ·(try dsimp only at hSw); obtain ⟨s0, s1, s2, s3⟩ := hSw; go_simp; try with_reducible rfl
         try simp only [zP, zN, zS, zT, zU]
         refine tk 19 (v := ?_) hHeld (fun w hSw => ?_) ?_; rotate_left
         ·(try dsimp only at hSw); obtain ⟨s0, s1, s2, s3⟩ := hSw; go_simp; try with_reducible rfl
         try simp only [zP, zN, zS, zT, zU]
         refine tk 20 (v := ?_) hHeld (fun w hSw => ?_) ?_; rotate_left
         ·(try dsimp only at hSw); obtain ⟨s0, s1, s2, s3⟩ := hSw; go_simp; try with_reducible rfl
         try simp only [zP, zN, zS, zT, zU]
         refine tk 21 (v := ?_) hHeld (fun w hSw => ?_) ?_; rotate_left
         ·(try dsimp only at hSw); obtain ⟨s0, s1, s2, s3⟩ := hSw; go_simp; try with_reducible rfl
         try simp only [zP, zN, zS, zT, zU]
         refine tk 22 (v := ?_) hHeld (fun w hSw => ?_) ?_; rotate_left
         ·(try dsimp only at hSw); obtain ⟨s0, s1, s2, s3⟩ := hSw; go_simp; try with_reducible rfl
         try simp only [zP, zN, zS, zT, zU]
         refine tk 23 (v := ?_) hHeld (fun w hSw => ?_) ?_; rotate_left
         ·(try dsimp only at hSw); obtain ⟨s0, s1, s2, s3⟩ := hSw; go_simp; try with_reducible rfl
         try simp only [zP, zN, zS, zT, zU]
         refine tk 24 (v := ?_) hHeld (fun w hSw => ?_) ?_; rotate_left
         ·(try dsimp only at hSw); obtain ⟨s0, s1, s2, s3⟩ := hSw; go_simp; try with_reducible rfl
         try simp only [zP, zN, zS, zT, zU]
         refine tk 25 (v := ?_) hHeld (fun w hSw => ?_) ?_; rotate_left
         ·(try dsimp only at hSw); obtain ⟨s0, s1, s2, s3⟩ := hSw; go_simp; try with_reducible rfl
         try simp only [zP, zN, zS, zT, zU]
         refine wpAnyH_done (by kernel_rfl) ?_ _
         go_wp2
         go_ret
         exact ⟨ret_bool HNO.out.symm, HW.out.then F.out⟩
        ·have hle' : (Op.bytesLess x.dir z || x.dir == z) = false := by simpa using hle
         have HNX := Lib.hid (HST.out.1 rfl (fun _ h => by rw [← HZ.out.1]; exact isUp hle'))
         clear hlt hk hk0 hz hz2 hle
         go_wp2_with fail
         refine wp_region_held_drew (S := (fun w' => w'.cell? ⟨wr2.heap.size, 0, none⟩ = some (.string (B x.dir)) ∧ w'.cell? ⟨wr2.heap.size, 1, none⟩ = some (.int .i64 x.next) ∧ w'.cell? ⟨w.heap.size, 1, none⟩ = some (.slice (some ⟨g, o, none⟩) m capt) ∧ w'.cell? ⟨g, o + (k - 1) * 2, none⟩ = some (.string (B z)))) (by kernel_rfl) ?_ (fun hHeld => ?_)
         ·exact ⟨HB.out.2.c0, HB.out.2.c1, HP.out.1, HP.out.2⟩
         refine tk 0 (v := ?_) hHeld (fun w hSw => ?_) ?_; rotate_left
         ·(try dsimp only at hSw); obtain ⟨s0, s1, s2, s3⟩ := hSw; go_simp; try with_reducible rfl
         try simp only [zP, zN, zS, zT, zU]
         refine tk 1 (v := ?_) hHeld (fun w hSw => ?_) ?_; rotate_left
         ·(try dsimp only at hSw); obtain ⟨s0, s1, s2, s3⟩ := hSw; go_simp; try with_reducible rfl
         try simp only [zP, zN, zS, zT, zU]
         refine wpAnyH_ready (rs := [2]) (by kernel_rfl) (by simp) ?_
         refine AllReadyH.cons (o := ?ob207) ?hb207 (fun K hK => ?_) AllReadyH.nil
         case hb207 => simp only [zA, zB, zC] <;> exact rfl
         go_simp
         go_at_call 64
         refine (HRI.out _).mono ?_
         rintro e w1 ⟨rfl, f1⟩
         have b1 := HB.out.2.keep f1.fp (fun h => h)
         have HS1 := Lib.hid (And.intro b1.c0 (And.intro b1.c1 (And.intro (f1.fp.cell HP.out.1 (fun h => h)) (f1.fp.cell HP.out.2 (fun h => h)))))
         have F := Lib.hid (HB.out.1.then f1.fp)
         clear f1 b1
         go_wp2_with fail
         refine hK.out _ _ HS1.out (fun hHeld => ?_)
         clear hK K
         try simp only [zP, zN, zS, zT, zU]
         refine tk 3 (v := ?_) hHeld (fun w hSw => ?_) ?_; rotate_left
         ·(try dsimp only at hSw); obtain ⟨s0, s1, s2, s3⟩ := hSw; go_simp; try with_reducible rfl
         try simp only [zP, zN, zS, zT, zU]
         refine tk 4 (v := ?_) hHeld (fun w hSw => ?_) ?_; rotate_left
         ·(try dsimp only at hSw); obtain ⟨s0, s1, s2, s3⟩ := hSw; go_simp; try with_reducible rfl
         try simp only [zP, zN, zS, zT, zU]
         refine tk 5 (v := ?_) hHeld (fun w hSw => ?_) ?_; rotate_left
         ·(try dsimp only at hSw); obtain ⟨s0, s1, s2, s3⟩ := hSw; go_simp; try with_reducible rfl
         try simp only [zP, zN, zS, zT, zU]
         refine tk 6 (v := ?_) hHeld (fun w hSw => ?_) ?_; rotate_left
         ·(try dsimp only at hSw); obtain ⟨s0, s1, s2, s3⟩ := hSw; go_simp; try with_reducible rfl
         try simp only [zP, zN, zS, zT, zU]
         refine wpAnyH_ready (rs := [7]) (by kernel_rfl) (by simp) ?_
         refine AllReadyH.cons (o := ?ob212) ?hb212 (fun K hK => ?_) AllReadyH.nil
         case hb212 => simp only [zA, zB, zC] <;> exact rfl
         go_simp
         go_at_call 65
         refine (HWI.out _).mono ?_
         rintro e w2 ⟨rfl, rfl⟩
         go_wp2_with fail
         refine hK.out _ _ HS1.out (fun hHeld => ?_)
         clear hK K
         try simp only [zP, zN, zS, zT, zU]
         refine tk 8 (v := ?_) hHeld (fun w hSw => ?_) ?_; rotate_left
         ·(try dsimp only at hSw); obtain ⟨s0, s1, s2, s3⟩ := hSw; go_simp; try with_reducible rfl
         try simp only [zP, zN, zS, zT, zU]
         refine tk 9 (v := ?_) hHeld (fun w hSw => ?_) ?_; rotate_left
         ·(try dsimp only at hSw); obtain ⟨s0, s1, s2, s3⟩ := hSw; go_simp; try with_reducible rfl
         try simp only [zP, zN, zS, zT, zU]
         refine tk 10 (v := ?_) hHeld (fun w hSw => ?_) ?_; rotate_left
         ·(try dsimp only at hSw); obtain ⟨s0, s1, s2, s3⟩ := hSw; go_simp; try with_reducible rfl
         try simp only [zP, zN, zS, zT, zU]
         refine tk 11 (v := ?_) hHeld (fun w hSw => ?_) ?_; rotate_left
         ·(try dsimp only at hSw); obtain ⟨s0, s1, s2, s3⟩ := hSw; go_simp; try with_reducible rfl
         try simp only [zP, zN, zS, zT, zU]
         refine tk 12 (v := ?_) hHeld (fun w hSw => ?_) ?_; rotate_left
         ·(try dsimp only at hSw); obtain ⟨s0, s1, s2, s3⟩ := hSw; go_simp; try with_reducible rfl
         try simp only [zP, zN, zS, zT, zU]
         refine tk 13 (v := ?_) hHeld (fun w hSw => ?_) ?_; rotate_left
         ·(try dsimp only at hSw); obtain ⟨s0, s1, s2, s3⟩ := hSw; go_simp; try with_reducible rfl
         try simp only [zP, zN, zS, zT, zU]
         refine tk 14 (v := ?_) hHeld (fun w hSw => ?_) ?_; rotate_left
         ·(try dsimp only at hSw); obtain ⟨s0, s1, s2, s3⟩ := hSw; go_simp; try with_reducible rfl
         try simp only [zP, zN, zS, zT, zU]
         refine tk 15 (v := ?_) hHeld (fun w hSw => ?_) ?_; rotate_left
         ·(try dsimp only at hSw); obtain ⟨s0, s1, s2, s3⟩ := hSw; go_simp; try with_reducible rfl
         try simp only [zP, zN, zS, zT, zU]
         refine tk 16 (v := ?_) hHeld (fun w hSw => ?_) ?_; rotate_left
         ·(try dsimp only at hSw); obtain ⟨s0, s1, s2, s3⟩ := hSw; go_simp; try with_reducible rfl
         try simp only [zP, zN, zS, zT, zU]
         refine tk 17 (v := ?_) hHeld (fun w hSw => ?_) ?_; rotate_left
         ·(try dsimp only at hSw); obtain ⟨s0, s1, s2, s3⟩ := hSw; go_simp; try with_reducible rfl
         try simp only [zP, zN, zS, zT, zU]
         refine tk 18 (v := ?_) hHeld (fun w hSw => ?_) ?_; rotate_left
         ·(try dsimp only at hSw); obtain ⟨s0, s1, s2, s3⟩ := hSw; go_simp; try with_reducible rfl
         try simp only [zP, zN, zS, zT, zU]
         refine tk 19 (v := ?_) hHeld (fun w hSw => ?_) ?_; rotate_left
         ·(try dsimp only at hSw); obtain ⟨s0, s1, s2, s3⟩ := hSw; go_simp; try with_reducible rfl
         try simp only [zP, zN, zS, zT, zU]
         refine tk 20 (v := ?_) hHeld (fun w hSw => ?_) ?_; rotate_left
         ·(try dsimp only at hSw); obtain ⟨s0, s1, s2, s3⟩ := hSw; go_simp; try with_reducible rfl
         try simp only [zP, zN, zS, zT, zU]
         refine tk 21 (v := ?_) hHeld (fun w hSw => ?_) ?_; rotate_left
         ·(try dsimp only at hSw); obtain ⟨s0, s1, s2, s3⟩ := hSw; go_simp; try with_reducible rfl
         try simp only [zP, zN, zS, zT, zU]
         refine tk 22 (v := ?_) hHeld (fun w hSw => ?_) ?_; rotate_left
         ·(try dsimp only at hSw); obtain ⟨s0, s1, s2, s3⟩ := hSw; go_simp; try with_reducible rfl
         try simp only [zP, zN, zS, zT, zU]
         refine tk 23 (v := ?_) hHeld (fun w hSw => ?_) ?_; rotate_left
         ·(try dsimp only at hSw); obtain ⟨s0, s1, s2, s3⟩ := hSw; go_simp; try with_reducible rfl
         try simp only [zP, zN, zS, zT, zU]
         refine tk 24 (v := ?_) hHeld (fun w hSw => ?_) ?_; rotate_left
         ·(try dsimp only at hSw); obtain ⟨s0, s1, s2, s3⟩ := hSw; go_simp; try with_reducible rfl
         try simp only [zP, zN, zS, zT, zU]
         refine tk 25 (v := ?_) hHeld (fun w hSw => ?_) ?_; rotate_left
         ·(try dsimp only at hSw); obtain ⟨s0, s1, s2, s3⟩ := hSw; go_simp; try with_reducible rfl
         try simp only [zP, zN, zS, zT, zU]
         refine wpAnyH_done (by kernel_rfl) ?_ _
         have hkn := HK.out
         go_wp2
         go_roundw
         case rel => exact ⟨k + 1, by have := HK.out; omega, by go_num, ⟨HR0.out.then F.out, HNX.out⟩⟩
         case measure => have := HK.out; simp [RowKit.intOf]; omega
    ·have hke : k = m := by omega
     subst hke
     have q3 : ((k : Int) < (k : Int)) = False := eq_false (by omega)
     have HOK := Lib.hid (show r = true by
      obtain ⟨a1, a2⟩ := chkT_all (fun j hj => hR.out.2 j hj (by rw [HT.out.1]; exact hj))
      rw [← HT.out.2.2.2]; exact rightS_true ⟨HN9.out.1, HN9.out.2, a1, a2⟩)
     have HFX := Lib.hid (HF1.out.then hR.out.1)
     clear hlt hk
     go_wp2
     go_ret
     exact ⟨ret_bool HOK.out.symm, HFX.out⟩
end Go.Proofs.YtphoglepiegeiaaGreatDoor
