/- A text of this proof. -/
import Derived.Test.YtphoglepiegeiaaGreatDoorZDD
import Derived.Test.YtphoglepiegeiaaGreatDoorZDF
import Derived.Test.YtphoglepiegeiaaGreatDoorZDG
import Derived.Test.YtphoglepiegeiaaGreatDoorZDH
import Derived.Test.YtphoglepiegeiaaGreatDoorZDK
set_option linter.unusedSimpArgs false
set_option linter.unusedVariables false
namespace Go.Proofs.YtphoglepiegeiaaGreatDoor
set_option maxRecDepth 20000
open Go.RowKit Pm
structure Sto (w : World) (v : Value) (s : St) : Prop where
 ex : ∃ vn vt, v = .agg #[vn, vt] ∧ Ns w vn s.nodes ∧ Ts w vt s.turns
theorem Sto.non {w w' : World} {v : Value} {s : St} (h : Sto w v s) (f : Fp Non w w') : Sto w' v s := by
 obtain ⟨vn, vt, e, h1, h2⟩ := h.ex
 exact ⟨vn, vt, e, h1.non f, h2.non f⟩
theorem bxN (wr : World) (x : Nd) : NdAt (wr.alloc (Obj.cells #[.string (B x.path), .string (B x.data), .int .i64 x.ver, .int .i64 x.turn, .int .i64 x.own] TN)).drew wr.heap.size 0 x := by
 have h := heap_alloc_new wr (Obj.cells #[.string (B x.path), .string (B x.data), .int .i64 x.ver, .int .i64 x.turn, .int .i64 x.own] TN)
 have hb : NdAt (wr.alloc (Obj.cells #[.string (B x.path), .string (B x.data), .int .i64 x.ver, .int .i64 x.turn, .int .i64 x.own] TN)) wr.heap.size 0 x := ⟨by rw [cell_of_row _ _ _ _ _ _ h]; rfl, by rw [cell_of_row _ _ _ _ _ _ h]; rfl, by rw [cell_of_row _ _ _ _ _ _ h]; rfl, by rw [cell_of_row _ _ _ _ _ _ h]; rfl, by rw [cell_of_row _ _ _ _ _ _ h]; rfl⟩
 exact hb.keep ((Fp.refl Non _).drew) id
theorem notUp {a z : Bs} (h : (Op.bytesLess a z || a == z) = true) : lt z a = false := by
 simp only [Bool.or_eq_true, beq_iff_eq] at h
 rcases h with h | rfl
 ·exact lt_asymm h
 exact lt_irrefl _
theorem isUp {a z : Bs} (h : (Op.bytesLess a z || a == z) = false) : lt z a = true := by
 simp only [Bool.or_eq_false_iff, beq_eq_false_iff_ne] at h
 exact lt_of h.1 h.2
def ChkN (l : List Nd) (j : Nat) (hj : j < l.length) : Prop := sfit l[j] = true ∧ (0 < j → ∀ h : j - 1 < l.length, lt l[j-1].path l[j].path = true)
theorem chkN_right {s : St} (h : StR s) : ∀ j (hj : j < s.nodes.length), ChkN s.nodes j hj := fun j hj =>
 ⟨h.fit _ (List.getElem_mem hj), fun h0 h1 => h.asc (j - 1) j h1 hj (by omega)⟩
def ChkT (l : List Tu) (j : Nat) (hj : j < l.length) : Prop := tfit l[j] = true ∧ (0 < j → ∀ h : j - 1 < l.length, lt l[j-1].dir l[j].dir = true)
theorem chkT_right {s : St} (h : StR s) : ∀ j (hj : j < s.turns.length), ChkT s.turns j hj := fun j hj =>
 ⟨h.tfit _ (List.getElem_mem hj), fun h0 h1 => h.tasc (j - 1) j h1 hj (by omega)⟩
theorem chkT_all {l : List Tu} (h : ∀ j (hj : j < l.length), ChkT l j hj) : (∀ t ∈ l, tfit t = true) ∧ AscT l :=
 ⟨fun n hn => by obtain ⟨i, hi, rfl⟩ := List.getElem_of_mem hn; exact (h i hi).1, ascT_iff.2 (asc_of fun i hi => by
  rw [List.length_map] at hi
  have := (h (i + 1) hi).2 (by omega) (by omega)
  simp only [List.getElem_map]
  show lt l[i].dir l[i+1].dir = true
  simpa using this)⟩
theorem bxT (wr : World) (x : Tu) : TuAt (wr.alloc (Obj.cells #[.string (B x.dir), .int .i64 x.next] TU)).drew wr.heap.size 0 x := by
 have h := heap_alloc_new wr (Obj.cells #[.string (B x.dir), .int .i64 x.next] TU)
 have hb : TuAt (wr.alloc (Obj.cells #[.string (B x.dir), .int .i64 x.next] TU)) wr.heap.size 0 x := ⟨by rw [cell_of_row _ _ _ _ _ _ h]; rfl, by rw [cell_of_row _ _ _ _ _ _ h]; rfl⟩
 exact hb.keep ((Fp.refl Non _).drew) id
theorem chkN_all {l : List Nd} (h : ∀ j (hj : j < l.length), ChkN l j hj) : (∀ n ∈ l, sfit n = true) ∧ Asc l :=
 ⟨fun n hn => by obtain ⟨i, hi, rfl⟩ := List.getElem_of_mem hn; exact (h i hi).1, asc_of fun i hi => by have := (h (i + 1) hi).2 (by omega) (by omega); simpa using this⟩
set_option maxHeartbeats 16000000 in
theorem rightP_c (v : Value) (s : St) (w : World) (hv : Sto w v s) (hs : Sp s.nodes) (hn : s.nodes.length ≤ 1000000) (hst : ∀ t ∈ s.turns, t.dir.length ≤ 1000000) (hmm : s.turns.length ≤ 1000000) :
  Calls Tryz.prog 19 #[v] w fun e w' => e = .returned (.bool (rightS s)) ∧ Fp Non w w' := by
 obtain ⟨vn, vt, rfl, h1, h2⟩ := hv.ex
 obtain ⟨ao, cap, rfl⟩ := h1.shape
 obtain ⟨at', capt, rfl⟩ := h2.shape
 obtain ⟨n, hnn⟩ : ∃ n, n = s.nodes.length := ⟨_, rfl⟩
 obtain ⟨m, hm⟩ : ∃ m, m = s.turns.length := ⟨_, rfl⟩
 obtain ⟨r, hr⟩ : ∃ r, rightS s = r := ⟨_, rfl⟩
 have HNone := Lib.hid (show ∀ k (hk : k < s.nodes.length), ¬ ChkN s.nodes k hk → r = false from fun k hk h => by rw [← hr]; exact rightS_false (fun c => h (chkN_right c k hk)))
 have HX := Lib.hid (And.intro hnn (And.intro h1 hs))
 have HT := Lib.hid (And.intro hm (And.intro h2 (And.intro hst hr)))
 have hmb : m ≤ 1000000 := by omega
 rw [hr, ← hnn, ← hm]
 have HB0 := Lib.hid (show (w.alloc (Obj.cells #[.slice ao n cap, .slice at' m capt] 25)).cell? ⟨w.heap.size, 0, none⟩ = some (.slice ao n cap) ∧ (w.alloc (Obj.cells #[.slice ao n cap, .slice at' m capt] 25)).cell? ⟨w.heap.size, 1, none⟩ = some (.slice at' m capt) from ⟨by rw [cell_of_row _ _ _ _ _ _ (heap_alloc_new w _)]; rfl, by rw [cell_of_row _ _ _ _ _ _ (heap_alloc_new w _)]; rfl⟩)
 have HF0 := Lib.hid (fp_alloc w (Obj.cells #[.slice ao n cap, .slice at' m capt] 25))
 have hnb : n ≤ 1000000 := by omega
 clear h1 h2 hv hs hn hnn hm hr hst hmm
 go_enter Tryz.func19, Tryz.ntmps19
 go_wp2_with fail
 obtain ⟨W0, hW0⟩ : ∃ W0, W0 = w.alloc (Obj.cells #[.slice ao n cap, .slice at' m capt] 25) := ⟨_, rfl⟩
 rw [← hW0] at HB0 HF0 ⊢
 clear hW0
 go_loopw [10] (fun i wr => ∃ k : Nat, k ≤ n ∧ i = .int .i64 k ∧ Hid (Fp Non W0 wr ∧ ∀ j (hj : j < s.nodes.length), j < k → ChkN s.nodes j hj)) (fun i _ => n - (RowKit.intOf i).toNat)
 case atStart => exact ⟨0, Nat.zero_le _, rfl, Fp.refl _ _, fun j _ h => absurd h (Nat.not_lt_zero j)⟩
 obtain ⟨k, hk, rfl, hR⟩ := hrel
 rename_i wr _
 by_cases hlt : k < n
 ·have hkl : k < s.nodes.length := by rw [← HX.out.1]; exact hlt
  obtain ⟨g, o, cap', e, _, _, _, hcell⟩ := HX.out.2.1.at (by omega)
  injection e with e1 e2 e3
  subst e1 e3
  have f0 := HF0.out.then hR.out.1
  have hnd := (hcell k hkl).keep f0 id
  obtain ⟨x, hx⟩ : ∃ x, x = s.nodes[k] := ⟨_, rfl⟩
  rw [← hx] at hnd
  have c0 := hnd.c0; have c1 := hnd.c1; have c2 := hnd.c2; have c3 := hnd.c3; have c4 := hnd.c4
  unfold strV at c0 c1
  have q3 : ((k : Int) < (n : Int)) = True := eq_true (by omega)
  have q4 : (k < n) = True := eq_true hlt
  have hxp : x.path.length ≤ 1000000 := HX.out.2.2 x (by rw [hx]; exact List.getElem_mem hkl)
  have hfc := fun w => fitsP_c x w hxp
  unfold ndV strV at hfc
  have hbb := bxN wr x
  have HB := Lib.hid (And.intro (((Fp.refl Non wr).alloc (Obj.cells #[.string (B x.path), .string (B x.data), .int .i64 x.ver, .int .i64 x.turn, .int .i64 x.own] TN)).drew) hbb)
  have HW := Lib.hid (f0)
  have HR0 := Lib.hid hR.out.1
  have HK := Lib.hid hlt
  have hst : (wr.alloc (Obj.cells #[.string (B x.path), .string (B x.data), .int .i64 x.ver, .int .i64 x.turn, .int .i64 x.own] TN)).drew.cell? ⟨w.heap.size, 0, none⟩ = some (.slice (some ⟨g, o, none⟩) n cap) := HB.out.1.cell (hR.out.1.cell HB0.out.1 id) id
  have hpc : ∀ k', k' < s.nodes.length → ∃ z, (wr.alloc (Obj.cells #[.string (B x.path), .string (B x.data), .int .i64 x.ver, .int .i64 x.turn, .int .i64 x.own] TN)).drew.cell? ⟨g, o + k' * 5, none⟩ = some (.string (B z)) ∧ ∀ h : k' < s.nodes.length, z = (s.nodes[k']).path := fun k' h => ⟨_, HB.out.1.cell ((hcell k' h).keep f0 id).c0 id, fun _ => rfl⟩
  have hold := hR.out.2
  have hstep : sfit x = true → (0 < k → ∀ h : k - 1 < s.nodes.length, lt (s.nodes[k-1]).path x.path = true) → ∀ j (hj : j < s.nodes.length), j < k + 1 → ChkN s.nodes j hj := fun a b j hj hjk => by
   rcases Nat.lt_or_eq_of_le (show j ≤ k by omega) with e | e
   ·exact hold j hj e
   subst e; exact ⟨by rw [← hx]; exact a, fun h0 h1 => by rw [← hx]; exact b h0 h1⟩
  have hno : (sfit x = false ∨ (0 < k ∧ ∃ h : k - 1 < s.nodes.length, lt (s.nodes[k-1]).path x.path = false)) → r = false := fun h => HNone.out k hkl (fun c => by
   rcases h with h | ⟨h0, h1, h2⟩
   ·have := c.1; rw [← hx, h] at this; cases this
   have := c.2 h0 h1; rw [← hx, h2] at this; cases this)
  obtain ⟨fx, hfx⟩ : ∃ b, sfit x = b := ⟨_, rfl⟩
  rw [hfx] at hfc hstep hno
  have HFC := Lib.hid hfc
  have HST := Lib.hid (And.intro hstep (And.intro hno (And.intro hst (And.intro hpc hkl))))
  clear hfc hbb hst hpc hold hstep hno hfx hxp hx hnd hcell f0
  cases fx with
  | false =>
   have HNO := Lib.hid (HST.out.2.1 (.inl rfl))
   clear hkl hlt hk
   go_wp2_with fail
   refine wp_region_held_drew (S := (fun w' => w'.cell? ⟨wr.heap.size, 0, none⟩ = some (.string (B x.path)) ∧ w'.cell? ⟨wr.heap.size, 1, none⟩ = some (.string (B x.data)) ∧ w'.cell? ⟨wr.heap.size, 2, none⟩ = some (.int .i64 x.ver) ∧ w'.cell? ⟨wr.heap.size, 3, none⟩ = some (.int .i64 x.turn) ∧ w'.cell? ⟨wr.heap.size, 4, none⟩ = some (.int .i64 x.own))) (by kernel_rfl) ?_ (fun hH => ?_)
   ·exact ⟨HB.out.2.c0, HB.out.2.c1, HB.out.2.c2, HB.out.2.c3, HB.out.2.c4⟩
   refine tk 0 hH ?_
   refine rY 1 fun K hK => ?_
   go_simp
   go_at_call 63
   refine (HFC.out _).mono ?_
   rintro e w1 ⟨rfl, f1⟩
   have b1 := HB.out.2.keep f1 id
   have HS1 := Lib.hid (And.intro b1.c0 (And.intro b1.c1 (And.intro b1.c2 (And.intro b1.c3 b1.c4))))
   have F := Lib.hid (HB.out.1.then f1)
   clear f1 b1
   go_wp2_with fail
   refine hK.out _ _ HS1.out (fun hH => ?_)
   clear hK K
   try simp only [zz]
   refine tk 2 hH ?_
   refine tk 3 hH ?_
   refine sk 4 hH ?_
   refine sk 5 hH ?_
   refine sk 6 hH ?_
   refine sk 7 hH ?_
   refine sk 8 hH ?_
   refine sk 9 hH ?_
   refine sk 10 hH ?_
   refine sk 11 hH ?_
   refine sk 12 hH ?_
   refine sk 13 hH ?_
   refine sk 14 hH ?_
   refine sk 15 hH ?_
   refine sk 16 hH ?_
   refine sk 17 hH ?_
   refine tk 18 hH ?_
   refine dn ?_
   go_wp2
   go_ret
   exact ⟨ret_bool HNO.out.symm, HW.out.then F.out⟩
  | true => ?_
  rcases Nat.eq_zero_or_pos k with hk0 | hk0
  ·subst hk0
   simp only [Nat.zero_mul, Nat.add_zero] at c0 c1 c2 c3 c4
   have HNX := Lib.hid (HST.out.1 rfl (fun h => absurd h (by omega)))
   clear hkl hlt hk
   go_wp2_with fail
   refine wp_region_held_drew (S := (fun w' => w'.cell? ⟨wr.heap.size, 0, none⟩ = some (.string (B x.path)) ∧ w'.cell? ⟨wr.heap.size, 1, none⟩ = some (.string (B x.data)) ∧ w'.cell? ⟨wr.heap.size, 2, none⟩ = some (.int .i64 x.ver) ∧ w'.cell? ⟨wr.heap.size, 3, none⟩ = some (.int .i64 x.turn) ∧ w'.cell? ⟨wr.heap.size, 4, none⟩ = some (.int .i64 x.own))) (by kernel_rfl) ?_ (fun hH => ?_)
   ·exact ⟨HB.out.2.c0, HB.out.2.c1, HB.out.2.c2, HB.out.2.c3, HB.out.2.c4⟩
   refine tk 0 hH ?_
   refine rY 1 fun K hK => ?_
   go_simp
   go_at_call 63
   refine (HFC.out _).mono ?_
   rintro e w1 ⟨rfl, f1⟩
   have b1 := HB.out.2.keep f1 id
   have HS1 := Lib.hid (And.intro b1.c0 (And.intro b1.c1 (And.intro b1.c2 (And.intro b1.c3 b1.c4))))
   have F := Lib.hid (HB.out.1.then f1)
   clear f1 b1
   go_wp2_with fail
   refine hK.out _ _ HS1.out (fun hH => ?_)
   clear hK K
   try simp only [zz]
   refine tk 2 hH ?_
   refine tk 3 hH ?_
   refine tk 4 hH ?_
   refine tk 5 hH ?_
   refine tk 6 hH ?_
   refine sk 7 hH ?_
   refine sk 8 hH ?_
   refine sk 9 hH ?_
   refine sk 10 hH ?_
   refine sk 11 hH ?_
   refine sk 12 hH ?_
   refine sk 13 hH ?_
   refine sk 14 hH ?_
   refine sk 15 hH ?_
   refine sk 16 hH ?_
   refine tk 17 hH ?_
   refine tk 18 hH ?_
   refine dn ?_
   have hkn := HK.out
   go_wp2
   go_roundw
   case rel => exact ⟨0 + 1, by have := HK.out; omega, by go_num, ⟨HR0.out.then F.out, HNX.out⟩⟩
   case measure => have := HK.out; simp [RowKit.intOf]; omega
  obtain ⟨z, hz, hz2⟩ := HST.out.2.2.2.1 (k - 1) (by omega)
  have HP := Lib.hid (And.intro HST.out.2.2.1 hz)
  have hkm : k - 1 < s.nodes.length := by omega
  have HZ := Lib.hid (And.intro (hz2 hkm) (And.intro hk0 hkm))
  have wk : IntKind.i64.wrap ((k : Int) - 1) = ((k - 1 : Nat) : Int) := by rw [IntKind.wrap_i64]; omega
  have qz : ((0 : Int) < (k : Int)) = True := eq_true (by omega)
  have qz2 : (0 < k) = True := eq_true hk0
  have qn : (((k - 1 : Nat) : Int) < (n : Int)) = True := eq_true (by omega)
  have qn2 : (k - 1 < n) = True := eq_true (by omega)
  by_cases hle : (Op.bytesLess x.path z || x.path == z) = true
  ·have HNO := Lib.hid (HST.out.2.1 (.inr ⟨HZ.out.2.1, HZ.out.2.2, by rw [← HZ.out.1]; exact notUp hle⟩))
   clear hlt hk hk0 hz hz2
   go_wp2_with fail
   refine wp_region_held_drew (S := (fun w' => w'.cell? ⟨wr.heap.size, 0, none⟩ = some (.string (B x.path)) ∧ w'.cell? ⟨wr.heap.size, 1, none⟩ = some (.string (B x.data)) ∧ w'.cell? ⟨wr.heap.size, 2, none⟩ = some (.int .i64 x.ver) ∧ w'.cell? ⟨wr.heap.size, 3, none⟩ = some (.int .i64 x.turn) ∧ w'.cell? ⟨wr.heap.size, 4, none⟩ = some (.int .i64 x.own) ∧ w'.cell? ⟨w.heap.size, 0, none⟩ = some (.slice (some ⟨g, o, none⟩) n cap) ∧ w'.cell? ⟨g, o + (k - 1) * 5, none⟩ = some (.string (B z)))) (by kernel_rfl) ?_ (fun hH => ?_)
   ·exact ⟨HB.out.2.c0, HB.out.2.c1, HB.out.2.c2, HB.out.2.c3, HB.out.2.c4, HP.out.1, HP.out.2⟩
   refine tk 0 hH ?_
   refine rY 1 fun K hK => ?_
   go_simp
   go_at_call 63
   refine (HFC.out _).mono ?_
   rintro e w1 ⟨rfl, f1⟩
   have b1 := HB.out.2.keep f1 id
   have HS1 := Lib.hid (And.intro b1.c0 (And.intro b1.c1 (And.intro b1.c2 (And.intro b1.c3 (And.intro b1.c4 (And.intro (f1.cell HP.out.1 id) (f1.cell HP.out.2 id)))))))
   have F := Lib.hid (HB.out.1.then f1)
   clear f1 b1
   go_wp2_with fail
   refine hK.out _ _ HS1.out (fun hH => ?_)
   clear hK K
   try simp only [zz]
   refine tk 2 hH ?_
   refine tk 3 hH ?_
   refine tk 4 hH ?_
   refine tk 5 hH ?_
   refine tk 6 hH ?_
   refine tk 7 hH ?_
   refine tk 8 hH ?_
   refine tk 9 hH ?_
   refine tk 10 hH ?_
   refine tk 11 hH ?_
   refine tk 12 hH ?_
   refine tk 13 hH ?_
   refine tk 14 hH ?_
   refine tk 15 hH ?_
   refine tk 16 hH ?_
   refine tk 17 hH ?_
   refine tk 18 hH ?_
   refine dn ?_
   go_wp2
   go_ret
   exact ⟨ret_bool HNO.out.symm, HW.out.then F.out⟩
  have hle' : (Op.bytesLess x.path z || x.path == z) = false := by simpa using hle
  have HNX := Lib.hid (HST.out.1 rfl (fun _ h => by rw [← HZ.out.1]; exact isUp hle'))
  clear hlt hk hk0 hz hz2 hle
  go_wp2_with fail
  refine wp_region_held_drew (S := (fun w' => w'.cell? ⟨wr.heap.size, 0, none⟩ = some (.string (B x.path)) ∧ w'.cell? ⟨wr.heap.size, 1, none⟩ = some (.string (B x.data)) ∧ w'.cell? ⟨wr.heap.size, 2, none⟩ = some (.int .i64 x.ver) ∧ w'.cell? ⟨wr.heap.size, 3, none⟩ = some (.int .i64 x.turn) ∧ w'.cell? ⟨wr.heap.size, 4, none⟩ = some (.int .i64 x.own) ∧ w'.cell? ⟨w.heap.size, 0, none⟩ = some (.slice (some ⟨g, o, none⟩) n cap) ∧ w'.cell? ⟨g, o + (k - 1) * 5, none⟩ = some (.string (B z)))) (by kernel_rfl) ?_ (fun hH => ?_)
  ·exact ⟨HB.out.2.c0, HB.out.2.c1, HB.out.2.c2, HB.out.2.c3, HB.out.2.c4, HP.out.1, HP.out.2⟩
  refine tk 0 hH ?_
  refine rY 1 fun K hK => ?_
  go_simp
  go_at_call 63
  refine (HFC.out _).mono ?_
  rintro e w1 ⟨rfl, f1⟩
  have b1 := HB.out.2.keep f1 id
  have HS1 := Lib.hid (And.intro b1.c0 (And.intro b1.c1 (And.intro b1.c2 (And.intro b1.c3 (And.intro b1.c4 (And.intro (f1.cell HP.out.1 id) (f1.cell HP.out.2 id)))))))
  have F := Lib.hid (HB.out.1.then f1)
  clear f1 b1
  go_wp2_with fail
  refine hK.out _ _ HS1.out (fun hH => ?_)
  clear hK K
  try simp only [zz]
  refine tk 2 hH ?_
  refine tk 3 hH ?_
  refine tk 4 hH ?_
  refine tk 5 hH ?_
  refine tk 6 hH ?_
  refine tk 7 hH ?_
  refine tk 8 hH ?_
  refine tk 9 hH ?_
  refine tk 10 hH ?_
  refine tk 11 hH ?_
  refine tk 12 hH ?_
  refine tk 13 hH ?_
  refine tk 14 hH ?_
  refine tk 15 hH ?_
  refine tk 16 hH ?_
  refine tk 17 hH ?_
  refine tk 18 hH ?_
  refine dn ?_
  have hkn := HK.out
  go_wp2
  go_roundw
  case rel => exact ⟨k + 1, by have := HK.out; omega, by go_num, ⟨HR0.out.then F.out, HNX.out⟩⟩
  case measure => have := HK.out; simp [RowKit.intOf]; omega
 have hke : k = n := by omega
 subst hke
 have q3 : ((k : Int) < (k : Int)) = False := eq_false (by omega)
 have t1 := hR.out.1.cell HB0.out.2 id
 clear hlt hk
 go_wp2_with fail
 have HN9 := Lib.hid (chkN_all (fun j hj => hR.out.2 j hj (by rw [HX.out.1]; exact hj)))
 have HNoT := Lib.hid (show ∀ i (hi : i < s.turns.length), ¬ ChkT s.turns i hi → r = false from fun i hi h => by rw [← HT.out.2.2.2]; exact rightS_false (fun c => h (chkT_right c i hi)))
 obtain ⟨W1, hW1⟩ : ∃ W1, W1 = wr := ⟨_, rfl⟩
 have HF1 := Lib.hid (HF0.out.then hR.out.1)
 have T1 := Lib.hid t1
 rw [← hW1] at HF1 T1 ⊢
 clear hW1 hR t1 HB0
 go_loopw [38] (fun i wr2 => ∃ k : Nat, k ≤ m ∧ i = .int .i64 k ∧ Hid (Fp Non W1 wr2 ∧ ∀ j (hj : j < s.turns.length), j < k → ChkT s.turns j hj)) (fun i _ => m - (RowKit.intOf i).toNat)
 case atStart => exact ⟨0, Nat.zero_le _, rfl, Fp.refl _ _, fun j _ h => absurd h (Nat.not_lt_zero j)⟩
 obtain ⟨k, hk, rfl, hR⟩ := hrel
 rename World => wr2
 by_cases hlt : k < m
 ·have hkl : k < s.turns.length := by rw [← HT.out.1]; exact hlt
  obtain ⟨g, o, cap', e, _, _, _, hcell⟩ := HT.out.2.1.at (by omega)
  injection e with e1 e2 e3
  subst e1 e3
  have f0 := HF1.out.then hR.out.1
  have hnd := (hcell k hkl).keep f0 id
  obtain ⟨x, hx⟩ : ∃ x, x = s.turns[k] := ⟨_, rfl⟩
  rw [← hx] at hnd
  have c0 := hnd.c0; have c1 := hnd.c1
  unfold strV at c0
  have q3 : ((k : Int) < (m : Int)) = True := eq_true (by omega)
  have q4 : (k < m) = True := eq_true hlt
  have hxp : x.dir.length ≤ 1000000 := HT.out.2.2.1 x (by rw [hx]; exact List.getElem_mem hkl)
  have hri := fun w => Right_g x.dir w (sz_of hxp (by omega))
  have hwi := fun w b h => withinP_d x.next 1 10000 w b h
  have hbb := bxT wr2 x
  have HB := Lib.hid (And.intro (((Fp.refl Non wr2).alloc (Obj.cells #[.string (B x.dir), .int .i64 x.next] TU)).drew) hbb)
  have HW := Lib.hid (f0)
  have HR0 := Lib.hid hR.out.1
  have HK := Lib.hid hlt
  have hst : (wr2.alloc (Obj.cells #[.string (B x.dir), .int .i64 x.next] TU)).drew.cell? ⟨w.heap.size, 1, none⟩ = some (.slice (some ⟨g, o, none⟩) m capt) := HB.out.1.cell (hR.out.1.cell T1.out id) id
  have hpc : ∀ k', k' < s.turns.length → ∃ z, (wr2.alloc (Obj.cells #[.string (B x.dir), .int .i64 x.next] TU)).drew.cell? ⟨g, o + k' * 2, none⟩ = some (.string (B z)) ∧ ∀ h : k' < s.turns.length, z = (s.turns[k']).dir := fun k' h => ⟨_, HB.out.1.cell ((hcell k' h).keep f0 id).c0 id, fun _ => rfl⟩
  have hold := hR.out.2
  obtain ⟨sp, hsp⟩ : ∃ b, (split x.dir).isSome = b := ⟨_, rfl⟩
  obtain ⟨b1, hb1⟩ : ∃ b, decide (1 ≤ x.next ∧ x.next ≤ 10000) = b := ⟨_, rfl⟩
  have hfit : tfit x = (sp && b1) := by rw [← hsp, ← hb1]; rfl
  have hstep : (sp && b1) = true → (0 < k → ∀ h : k - 1 < s.turns.length, lt (s.turns[k-1]).dir x.dir = true) → ∀ j (hj : j < s.turns.length), j < k + 1 → ChkT s.turns j hj := fun a b j hj hjk => by
   rcases Nat.lt_or_eq_of_le (show j ≤ k by omega) with e | e
   ·exact hold j hj e
   subst e; exact ⟨by rw [← hx, hfit]; exact a, fun h0 h1 => by rw [← hx]; exact b h0 h1⟩
  have hno : ((sp && b1) = false ∨ (0 < k ∧ ∃ h : k - 1 < s.turns.length, lt (s.turns[k-1]).dir x.dir = false)) → r = false := fun h => HNoT.out k hkl (fun c => by
   rcases h with h | ⟨h0, h1, h2⟩
   ·have := c.1; rw [← hx, hfit, h] at this; cases this
   have := c.2 h0 h1; rw [← hx, h2] at this; cases this)
  rw [hsp] at hri
  have HRI := Lib.hid hri
  have HWI := Lib.hid (fun w => hwi w b1 hb1)
  have HST := Lib.hid (And.intro hstep (And.intro hno (And.intro hst (And.intro hpc hkl))))
  clear hri hwi hbb hst hpc hold hstep hno hfit hsp hb1 hxp hx hnd hcell f0
  cases sp with
  | false =>
   have HNO := Lib.hid (HST.out.2.1 (.inl rfl))
   clear hkl hlt hk
   go_wp2_with fail
   refine wp_region_held_drew (S := (fun w' => w'.cell? ⟨wr2.heap.size, 0, none⟩ = some (.string (B x.dir)) ∧ w'.cell? ⟨wr2.heap.size, 1, none⟩ = some (.int .i64 x.next))) (by kernel_rfl) ?_ (fun hH => ?_)
   ·exact ⟨HB.out.2.c0, HB.out.2.c1⟩
   refine tk 0 hH ?_
   refine tk 1 hH ?_
   refine rY 2 fun K hK => ?_
   go_simp
   go_at_call 64
   refine (HRI.out _).mono ?_
   rintro e w1 ⟨rfl, f1⟩
   have b1 := HB.out.2.keep f1.fp id
   have HS1 := Lib.hid (And.intro b1.c0 b1.c1)
   have F := Lib.hid (HB.out.1.then f1.fp)
   clear f1 b1
   go_wp2_with fail
   refine hK.out _ _ HS1.out (fun hH => ?_)
   clear hK K
   try simp only [zz]
   refine tk 3 hH ?_
   refine tk 4 hH ?_
   refine sk 5 hH ?_
   refine sk 6 hH ?_
   refine sk 7 hH ?_
   refine sk 8 hH ?_
   refine tk 9 hH ?_
   refine tk 10 hH ?_
   refine sk 11 hH ?_
   refine sk 12 hH ?_
   refine sk 13 hH ?_
   refine sk 14 hH ?_
   refine sk 15 hH ?_
   refine sk 16 hH ?_
   refine sk 17 hH ?_
   refine sk 18 hH ?_
   refine sk 19 hH ?_
   refine sk 20 hH ?_
   refine sk 21 hH ?_
   refine sk 22 hH ?_
   refine sk 23 hH ?_
   refine sk 24 hH ?_
   refine tk 25 hH ?_
   refine dn ?_
   go_wp2
   go_ret
   exact ⟨ret_bool HNO.out.symm, HW.out.then F.out⟩
  | true => ?_
  cases b1 with
  | false =>
   have HNO := Lib.hid (HST.out.2.1 (.inl rfl))
   clear hkl hlt hk
   go_wp2_with fail
   refine wp_region_held_drew (S := (fun w' => w'.cell? ⟨wr2.heap.size, 0, none⟩ = some (.string (B x.dir)) ∧ w'.cell? ⟨wr2.heap.size, 1, none⟩ = some (.int .i64 x.next))) (by kernel_rfl) ?_ (fun hH => ?_)
   ·exact ⟨HB.out.2.c0, HB.out.2.c1⟩
   refine tk 0 hH ?_
   refine tk 1 hH ?_
   refine rY 2 fun K hK => ?_
   go_simp
   go_at_call 64
   refine (HRI.out _).mono ?_
   rintro e w1 ⟨rfl, f1⟩
   have b1 := HB.out.2.keep f1.fp id
   have HS1 := Lib.hid (And.intro b1.c0 b1.c1)
   have F := Lib.hid (HB.out.1.then f1.fp)
   clear f1 b1
   go_wp2_with fail
   refine hK.out _ _ HS1.out (fun hH => ?_)
   clear hK K
   try simp only [zz]
   refine tk 3 hH ?_
   refine tk 4 hH ?_
   refine tk 5 hH ?_
   refine tk 6 hH ?_
   refine rY 7 fun K hK => ?_
   go_simp
   go_at_call 65
   refine (HWI.out _).mono ?_
   rintro e w2 ⟨rfl, rfl⟩
   go_wp2_with fail
   refine hK.out _ _ HS1.out (fun hH => ?_)
   clear hK K
   try simp only [zz]
   refine tk 8 hH ?_
   refine tk 9 hH ?_
   refine tk 10 hH ?_
   refine sk 11 hH ?_
   refine sk 12 hH ?_
   refine sk 13 hH ?_
   refine sk 14 hH ?_
   refine sk 15 hH ?_
   refine sk 16 hH ?_
   refine sk 17 hH ?_
   refine sk 18 hH ?_
   refine sk 19 hH ?_
   refine sk 20 hH ?_
   refine sk 21 hH ?_
   refine sk 22 hH ?_
   refine sk 23 hH ?_
   refine sk 24 hH ?_
   refine tk 25 hH ?_
   refine dn ?_
   go_wp2
   go_ret
   exact ⟨ret_bool HNO.out.symm, HW.out.then F.out⟩
  | true => ?_
  rcases Nat.eq_zero_or_pos k with hk0 | hk0
  ·subst hk0
   simp only [Nat.zero_mul, Nat.add_zero] at c0 c1
   have HNX := Lib.hid (HST.out.1 rfl (fun h => absurd h (by omega)))
   clear hkl hlt hk
   go_wp2_with fail
   refine wp_region_held_drew (S := (fun w' => w'.cell? ⟨wr2.heap.size, 0, none⟩ = some (.string (B x.dir)) ∧ w'.cell? ⟨wr2.heap.size, 1, none⟩ = some (.int .i64 x.next))) (by kernel_rfl) ?_ (fun hH => ?_)
   ·exact ⟨HB.out.2.c0, HB.out.2.c1⟩
   refine tk 0 hH ?_
   refine tk 1 hH ?_
   refine rY 2 fun K hK => ?_
   go_simp
   go_at_call 64
   refine (HRI.out _).mono ?_
   rintro e w1 ⟨rfl, f1⟩
   have b1 := HB.out.2.keep f1.fp id
   have HS1 := Lib.hid (And.intro b1.c0 b1.c1)
   have F := Lib.hid (HB.out.1.then f1.fp)
   clear f1 b1
   go_wp2_with fail
   refine hK.out _ _ HS1.out (fun hH => ?_)
   clear hK K
   try simp only [zz]
   refine tk 3 hH ?_
   refine tk 4 hH ?_
   refine tk 5 hH ?_
   refine tk 6 hH ?_
   refine rY 7 fun K hK => ?_
   go_simp
   go_at_call 65
   refine (HWI.out _).mono ?_
   rintro e w2 ⟨rfl, rfl⟩
   go_wp2_with fail
   refine hK.out _ _ HS1.out (fun hH => ?_)
   clear hK K
   try simp only [zz]
   refine tk 8 hH ?_
   refine tk 9 hH ?_
   refine tk 10 hH ?_
   refine tk 11 hH ?_
   refine tk 12 hH ?_
   refine tk 13 hH ?_
   refine sk 14 hH ?_
   refine sk 15 hH ?_
   refine sk 16 hH ?_
   refine sk 17 hH ?_
   refine sk 18 hH ?_
   refine sk 19 hH ?_
   refine sk 20 hH ?_
   refine sk 21 hH ?_
   refine sk 22 hH ?_
   refine sk 23 hH ?_
   refine tk 24 hH ?_
   refine tk 25 hH ?_
   refine dn ?_
   have hkn := HK.out
   go_wp2
   go_roundw
   case rel => exact ⟨0 + 1, by have := HK.out; omega, by go_num, ⟨HR0.out.then F.out, HNX.out⟩⟩
   case measure => have := HK.out; simp [RowKit.intOf]; omega
  obtain ⟨z, hz, hz2⟩ := HST.out.2.2.2.1 (k - 1) (by omega)
  have HP := Lib.hid (And.intro HST.out.2.2.1 hz)
  have hkm : k - 1 < s.turns.length := by omega
  have HZ := Lib.hid (And.intro (hz2 hkm) (And.intro hk0 hkm))
  have wk : IntKind.i64.wrap ((k : Int) - 1) = ((k - 1 : Nat) : Int) := by rw [IntKind.wrap_i64]; omega
  have qz : ((0 : Int) < (k : Int)) = True := eq_true (by omega)
  have qz2 : (0 < k) = True := eq_true hk0
  have qn : (((k - 1 : Nat) : Int) < (m : Int)) = True := eq_true (by omega)
  have qn2 : (k - 1 < m) = True := eq_true (by omega)
  by_cases hle : (Op.bytesLess x.dir z || x.dir == z) = true
  ·have HNO := Lib.hid (HST.out.2.1 (.inr ⟨HZ.out.2.1, HZ.out.2.2, by rw [← HZ.out.1]; exact notUp hle⟩))
   clear hlt hk hk0 hz hz2
   go_wp2_with fail
   refine wp_region_held_drew (S := (fun w' => w'.cell? ⟨wr2.heap.size, 0, none⟩ = some (.string (B x.dir)) ∧ w'.cell? ⟨wr2.heap.size, 1, none⟩ = some (.int .i64 x.next) ∧ w'.cell? ⟨w.heap.size, 1, none⟩ = some (.slice (some ⟨g, o, none⟩) m capt) ∧ w'.cell? ⟨g, o + (k - 1) * 2, none⟩ = some (.string (B z)))) (by kernel_rfl) ?_ (fun hH => ?_)
   ·exact ⟨HB.out.2.c0, HB.out.2.c1, HP.out.1, HP.out.2⟩
   refine tk 0 hH ?_
   refine tk 1 hH ?_
   refine rY 2 fun K hK => ?_
   go_simp
   go_at_call 64
   refine (HRI.out _).mono ?_
   rintro e w1 ⟨rfl, f1⟩
   have b1 := HB.out.2.keep f1.fp id
   have HS1 := Lib.hid (And.intro b1.c0 (And.intro b1.c1 (And.intro (f1.fp.cell HP.out.1 id) (f1.fp.cell HP.out.2 id))))
   have F := Lib.hid (HB.out.1.then f1.fp)
   clear f1 b1
   go_wp2_with fail
   refine hK.out _ _ HS1.out (fun hH => ?_)
   clear hK K
   try simp only [zz]
   refine tk 3 hH ?_
   refine tk 4 hH ?_
   refine tk 5 hH ?_
   refine tk 6 hH ?_
   refine rY 7 fun K hK => ?_
   go_simp
   go_at_call 65
   refine (HWI.out _).mono ?_
   rintro e w2 ⟨rfl, rfl⟩
   go_wp2_with fail
   refine hK.out _ _ HS1.out (fun hH => ?_)
   clear hK K
   try simp only [zz]
   refine tk 8 hH ?_
   refine tk 9 hH ?_
   refine tk 10 hH ?_
   refine tk 11 hH ?_
   refine tk 12 hH ?_
   refine tk 13 hH ?_
   refine tk 14 hH ?_
   refine tk 15 hH ?_
   refine tk 16 hH ?_
   refine tk 17 hH ?_
   refine tk 18 hH ?_
   refine tk 19 hH ?_
   refine tk 20 hH ?_
   refine tk 21 hH ?_
   refine tk 22 hH ?_
   refine tk 23 hH ?_
   refine tk 24 hH ?_
   refine tk 25 hH ?_
   refine dn ?_
   go_wp2
   go_ret
   exact ⟨ret_bool HNO.out.symm, HW.out.then F.out⟩
  have hle' : (Op.bytesLess x.dir z || x.dir == z) = false := by simpa using hle
  have HNX := Lib.hid (HST.out.1 rfl (fun _ h => by rw [← HZ.out.1]; exact isUp hle'))
  clear hlt hk hk0 hz hz2 hle
  go_wp2_with fail
  refine wp_region_held_drew (S := (fun w' => w'.cell? ⟨wr2.heap.size, 0, none⟩ = some (.string (B x.dir)) ∧ w'.cell? ⟨wr2.heap.size, 1, none⟩ = some (.int .i64 x.next) ∧ w'.cell? ⟨w.heap.size, 1, none⟩ = some (.slice (some ⟨g, o, none⟩) m capt) ∧ w'.cell? ⟨g, o + (k - 1) * 2, none⟩ = some (.string (B z)))) (by kernel_rfl) ?_ (fun hH => ?_)
  ·exact ⟨HB.out.2.c0, HB.out.2.c1, HP.out.1, HP.out.2⟩
  refine tk 0 hH ?_
  refine tk 1 hH ?_
  refine rY 2 fun K hK => ?_
  go_simp
  go_at_call 64
  refine (HRI.out _).mono ?_
  rintro e w1 ⟨rfl, f1⟩
  have b1 := HB.out.2.keep f1.fp id
  have HS1 := Lib.hid (And.intro b1.c0 (And.intro b1.c1 (And.intro (f1.fp.cell HP.out.1 id) (f1.fp.cell HP.out.2 id))))
  have F := Lib.hid (HB.out.1.then f1.fp)
  clear f1 b1
  go_wp2_with fail
  refine hK.out _ _ HS1.out (fun hH => ?_)
  clear hK K
  try simp only [zz]
  refine tk 3 hH ?_
  refine tk 4 hH ?_
  refine tk 5 hH ?_
  refine tk 6 hH ?_
  refine rY 7 fun K hK => ?_
  go_simp
  go_at_call 65
  refine (HWI.out _).mono ?_
  rintro e w2 ⟨rfl, rfl⟩
  go_wp2_with fail
  refine hK.out _ _ HS1.out (fun hH => ?_)
  clear hK K
  try simp only [zz]
  refine tk 8 hH ?_
  refine tk 9 hH ?_
  refine tk 10 hH ?_
  refine tk 11 hH ?_
  refine tk 12 hH ?_
  refine tk 13 hH ?_
  refine tk 14 hH ?_
  refine tk 15 hH ?_
  refine tk 16 hH ?_
  refine tk 17 hH ?_
  refine tk 18 hH ?_
  refine tk 19 hH ?_
  refine tk 20 hH ?_
  refine tk 21 hH ?_
  refine tk 22 hH ?_
  refine tk 23 hH ?_
  refine tk 24 hH ?_
  refine tk 25 hH ?_
  refine dn ?_
  have hkn := HK.out
  go_wp2
  go_roundw
  case rel => exact ⟨k + 1, by have := HK.out; omega, by go_num, ⟨HR0.out.then F.out, HNX.out⟩⟩
  case measure => have := HK.out; simp [RowKit.intOf]; omega
 have hke : k = m := by omega
 subst hke
 have q3 : ((k : Int) < (k : Int)) = False := eq_false (by omega)
 have HOK := Lib.hid (show r = true by
  obtain ⟨a1, a2⟩ := chkT_all (fun j hj => hR.out.2 j hj (by rw [HT.out.1]; exact hj))
  rw [← HT.out.2.2.2]; exact rightS_true ⟨HN9.out.1, HN9.out.2, a1, a2⟩)
 have HFX := Lib.hid (HF1.out.then hR.out.1)
 clear hlt hk
 go_wp2
 go_ret
 exact ⟨ret_bool HOK.out.symm, HFX.out⟩
theorem fN : (Tryz.prog.fieldsOf TN).toList = [⟨ "Path", 9, 0, false, "", "", 0⟩, ⟨ "Data", 9, 1, false, "", "", 16⟩, ⟨ "Version", 2, 2, false, "", "", 32⟩, ⟨ "Turn", 2, 3, false, "", "", 40⟩, ⟨ "Owner", 2, 4, false, "", "", 48⟩] := by kernel_rfl
theorem eq_nd (w : World) (p p' d d' : ByteArray) (v v' t t' o o' : Int) : (Op.equalIn 10000 TN (.agg #[.string p, .string d, .int .i64 v, .int .i64 t, .int .i64 o]) (.agg #[.string p', .string d', .int .i64 v', .int .i64 t', .int .i64 o'])).run Tryz.prog w =
  .ok (decide (p.toList = p'.toList ∧ d.toList = d'.toList ∧ v = v' ∧ t = t' ∧ o = o')) w := by
 rw [run_equalIn_agg w 9999 TN _ _ (by kernel_rfl) (by kernel_rfl), fN]
 have e2 := fun w a b => run_equalIn_int (P := Tryz.prog) w 9998 2 .i64 .i64 a b Tryz.underlying2
 have e3 := fun w a b => run_equalIn_string (P := Tryz.prog) w 9998 9 a b Tryz.underlying9
 simp only [Op.eqFields]
 simp [e2, e3, go_sem]
 by_cases h2 : p.toList = p'.toList <;> by_cases h3 : d.toList = d'.toList <;> by_cases h4 : v = v' <;> by_cases h5 : t = t' <;> by_cases h6 : o = o' <;> simp [h2, h3, h4, h5, h6]
theorem B_list (l : Bs) : (B l).toList = l := by
 unfold B; simp [ByteArray.toList_eq]
theorem eq_nds (w : World) (x y : Nd) : (Op.equalIn 10000 TN (.agg #[.string (B x.path), .string (B x.data), .int .i64 x.ver, .int .i64 x.turn, .int .i64 x.own]) (.agg #[.string (B y.path), .string (B y.data), .int .i64 y.ver, .int .i64 y.turn, .int .i64 y.own])).run Tryz.prog w = .ok (decide (x = y)) w := by
 rw [eq_nd]
 congr 1
 simp only [B_list]
 obtain ⟨_, _, _, _, _⟩ := x
 obtain ⟨_, _, _, _, _⟩ := y
 simp
structure SaM (a b : List Nd) (w : World) (k : Nat) (wr : World) : Prop where
 fp : Fp Non w wr
 eq : a.take k = b.take k
theorem take_succ_eq {a b : List Nd} {k : Nat} (ha : k < a.length) (hb : k < b.length) (h : a.take k = b.take k) (e : a[k] = b[k]) : a.take (k + 1) = b.take (k + 1) := by
 rw [List.take_succ_eq_append_getElem ha, List.take_succ_eq_append_getElem hb, h, e]
set_option maxHeartbeats 2000000 in
theorem rSameN_c (va vb : Value) (a b : List Nd) (w : World) (hva : Ns w va a) (hvb : Ns w vb b) (hn : a.length ≤ 1000000) (hm : b.length ≤ 1000000) :
  Calls Tryz.prog 34 #[va, vb] w fun e w' => e = .returned (.bool (decide (a = b))) ∧ Fp Non w w' := by
 obtain ⟨ao, ca, rfl⟩ := hva.shape
 obtain ⟨bo, cb, rfl⟩ := hvb.shape
 by_cases hl : a.length = b.length
 ·obtain ⟨n, hnn⟩ : ∃ n, n = a.length := ⟨_, rfl⟩
  have hnb : n ≤ 1000000 := by omega
  have HX := Lib.hid (And.intro hnn (And.intro (show n = b.length by omega) (And.intro hva hvb)))
  rw [← hl, ← hnn]
  have H0 : Hid (SaM a b w 0 w) := ⟨Fp.refl _ _, by simp⟩
  have heq := eq_nds
  clear hva hvb hl hn hm hnn
  go_enter Tryz.func34, Tryz.ntmps34
  go_wp2_with fail
  go_loopw [5] (fun i wr => ∃ k : Nat, k ≤ n ∧ i = .int .i64 k ∧ Hid (SaM a b w k wr)) (fun i _ => n - (RowKit.intOf i).toNat)
  case atStart => exact ⟨0, Nat.zero_le _, rfl, H0⟩
  clear H0
  obtain ⟨k, hk, rfl, hR⟩ := hrel
  rename_i wr _
  by_cases hlt : k < n
  ·have hka : k < a.length := by rw [← HX.out.1]; exact hlt
   have hkb : k < b.length := by rw [← HX.out.2.1]; exact hlt
   obtain ⟨g, o, cap', e, _, _, _, hcell⟩ := HX.out.2.2.1.at (by omega)
   injection e with e1 e2 e3
   subst e1 e3
   obtain ⟨g', o', cap', e, _, _, _, hcell'⟩ := HX.out.2.2.2.at (by omega)
   injection e with e1 e2 e3
   subst e1 e3
   have hnd := (hcell k hka).keep hR.out.fp id
   have hnd' := (hcell' k hkb).keep hR.out.fp id
   have q3 : ((k : Int) < (n : Int)) = True := eq_true (by omega)
   have q4 : (k < n) = True := eq_true hlt
   have hnx := fun e wr' (f : Fp Non wr wr') => (show SaM a b w (k + 1) wr' from ⟨hR.out.fp.then f, take_succ_eq hka hkb hR.out.eq e⟩)
   have hno := fun (e : a[k] ≠ b[k]) => (show a ≠ b from fun h => e (by subst h; rfl))
   have HNX := Lib.hid hnx
   have HNO := Lib.hid hno
   have HL := Lib.hid hlt
   clear hcell hcell' hnx hno hlt
   generalize a[k] = x at *
   generalize b[k] = y at *
   have c0 := hnd.c0; have c1 := hnd.c1; have c2 := hnd.c2; have c3 := hnd.c3; have c4 := hnd.c4
   have d0 := hnd'.c0; have d1 := hnd'.c1; have d2 := hnd'.c2; have d3 := hnd'.c3; have d4 := hnd'.c4
   unfold strV at c0 c1 d0 d1
   clear hnd hnd' hka hkb
   by_cases hxy : x = y
   ·have q5 : decide (x = y) = true := decide_eq_true hxy
    have q6 : (x = y) = True := eq_true hxy
    have hM := Lib.hid (HNX.out hxy)
    have hj := HL.out
    clear hxy
    go_wp2_with fail
    go_quiet (fail)
    go_wp2
    go_roundw
    case rel => exact ⟨k + 1, by omega, by go_num, hM.out _ ((Fp.refl _ _).drewN _)⟩
    case measure => simp [RowKit.intOf]; omega
   have q5 : decide (x = y) = false := decide_eq_false hxy
   have q6 : (x = y) = False := eq_false hxy
   have HN := Lib.hid (HNO.out hxy)
   clear hxy
   go_wp2_with fail
   go_quiet (fail)
   go_wp2
   go_ret
   exact ⟨by rw [decide_eq_false HN.out]; rfl, hR.out.fp.drewN _⟩
  have hke : k = n := by omega
  subst hke
  have q3 : ((k : Int) < (k : Int)) = False := eq_false (by omega)
  have hfin : a = b := by
   have := hR.out.eq
   rw [HX.out.1, List.take_length, ← HX.out.1, HX.out.2.1, List.take_length] at this; exact this
  have HFN := Lib.hid hfin
  clear hlt hk hfin
  go_wp2
  go_ret
  exact ⟨by rw [decide_eq_true HFN.out]; rfl, hR.out.fp⟩
 have HN := Lib.hid (show a ≠ b from fun h => hl (by rw [h]))
 have q1 : ((a.length : Int) == (b.length : Int)) = false := beq_eq_false_iff_ne.2 (by omega)
 have q2 : ((a.length : Int) = (b.length : Int)) = False := eq_false (by omega)
 have q3 : (a.length == b.length) = false := beq_eq_false_iff_ne.2 hl
 have q4 : (a.length = b.length) = False := eq_false hl
 clear hl hva hvb hn hm
 go_enter Tryz.func34, Tryz.ntmps34
 go_wp2
 go_ret
 exact ⟨by rw [decide_eq_false HN.out]; rfl, Fp.refl _ _⟩
structure GrM (l : List Nd) (w : World) (k : Nat) (N : Int) (wr : World) : Prop where
 fp : Fp Non w wr
 lo : 3 * (l.length : Int) ≤ N
 eq : ∀ j (h : j < l.length), j < k → (min (l[j].path.length : Int) 5000 ≤ N ∧ min (l[j].data.length : Int) 5000 ≤ N)
theorem min5 (a : Nat) : (0 : Int) ≤ min (a : Int) 5000 ∧ min (a : Int) 5000 ≤ 5000 := by omega
theorem GrM.next {l : List Nd} {w wr wr' : World} {k : Nat} {N : Int} (h : GrM l w k N wr) (f : Fp Non wr wr') (hk : k < l.length) :
  GrM l w (k + 1) (N + min (l[k].path.length : Int) 5000 + min (l[k].data.length : Int) 5000) wr' := by
 have hN : 0 ≤ N := by have := h.lo; omega
 have m1 := min5 l[k].path.length
 have m2 := min5 l[k].data.length
 refine ⟨h.fp.then f, by have := h.lo; omega, fun j hj hjk => ?_⟩
 rcases Nat.lt_or_eq_of_le (show j ≤ k by omega) with e | e
 ·have := h.eq j hj e
  omega
 subst e
 omega
theorem GrM.few {l : List Nd} {w wr : World} {k : Nat} {N : Int} (h : GrM l w k N wr) (hk : k = l.length) (hN : N < 5000) : l.length ≤ 1667 ∧ ∀ x ∈ l, x.path.length ≤ 5000 ∧ x.data.length ≤ 5000 := by
 refine ⟨by have := h.lo; omega, fun x hx => ?_⟩
 obtain ⟨j, hj, rfl⟩ := List.getElem_of_mem hx
 have := h.eq j hj (by omega)
 omega
set_option maxHeartbeats 6000000 in
theorem Great_c (v : Value) (l : List Nd) (w : World) (hv : Ns w v l) (hn : l.length ≤ 140737488355328) :
  Calls Tryz.prog 26 #[v] w fun e w' => ∃ g : Bool, e = .returned (.bool g) ∧ (g = false → l.length ≤ 1667 ∧ ∀ x ∈ l, x.path.length ≤ 5000 ∧ x.data.length ≤ 5000) ∧ Fp Non w w' := by
 obtain ⟨ao, cap, rfl⟩ := hv.shape
 obtain ⟨n, hnn⟩ : ∃ n, n = l.length := ⟨_, rfl⟩
 have HX := Lib.hid (And.intro hnn hv)
 rw [← hnn]
 have hnb : n ≤ 140737488355328 := by omega
 clear hv hn hnn
 go_enter Tryz.func26, Tryz.ntmps26
 go_wp2_with fail
 go_loopw [3, 4] (fun m i wr => ∃ k : Nat, k ≤ n ∧ i = .int .i64 k ∧ ∃ N : Int, m = .int .i64 N ∧ (0 ≤ N ∧ N ≤ 422212465095680) ∧ Hid (GrM l w k N wr)) (fun _ i _ => n - (RowKit.intOf i).toNat)
 case atStart => exact ⟨0, Nat.zero_le _, rfl, 3 * (n : Int), by go_num, by omega, ⟨Fp.refl _ _, by rw [HX.out.1]; exact Int.le_refl _, fun j _ h => absurd h (Nat.not_lt_zero j)⟩⟩
 obtain ⟨k, hk, rfl, N, rfl, hN, hR⟩ := hrel
 rename_i wr _
 by_cases hlt : k < n
 ·have hkl : k < l.length := by rw [← HX.out.1]; exact hlt
  have q3 : ((k : Int) < (n : Int)) = True := eq_true (by omega)
  have q4 : (k < n) = True := eq_true hlt
  by_cases hN5 : N < 5000
  ·have q5 : (N < 5000) = True := eq_true hN5
   obtain ⟨g, o, cap', e, _, _, _, hcell⟩ := HX.out.2.at (by omega)
   injection e with e1 e2 e3
   subst e1 e3
   have hnd := (hcell k hkl).keep hR.out.fp id
   clear hcell
   have hnx := fun wr' f => hR.out.next (wr' := wr') f hkl
   have HNX := Lib.hid hnx
   have HL := Lib.hid (And.intro hlt hN5)
   clear hnx hlt hN5
   generalize l[k] = x at *
   clear hkl
   have c0 := hnd.c0; have c1 := hnd.c1
   unfold strV at c0 c1
   have HB := Lib.hid (And.intro (min5 x.path.length) (min5 x.data.length))
   clear hnd
   go_wp2_with fail
   go_quiet (fail)
   go_wp2_with fail
   have hb := HB.out
   have hj := HL.out
   refine ⟨⟨k + 1, by omega, by go_num, _, rfl, ⟨by omega, by omega⟩, HNX.out _ ((Fp.refl _ _).drewN _)⟩, ?_⟩
   simp [RowKit.intOf]; omega
  have q5 : (N < 5000) = False := eq_false hN5
  have q6 : ((5000 : Int) ≤ N) = True := eq_true (by omega)
  clear hN5 hkl hlt
  go_wp2
  go_ret
  exact ⟨true, rfl, fun h => by simp at h, hR.out.fp⟩
 have hke : k = n := by omega
 subst hke
 have q3 : ((k : Int) < (k : Int)) = False := eq_false (by omega)
 by_cases hN5 : N < 5000
 ·have q6 : ((5000 : Int) ≤ N) = False := eq_false (by omega)
  have hfw := hR.out.few HX.out.1 hN5
  rw [← HX.out.1] at hfw
  have HFW := Lib.hid hfw
  clear hfw hN5 hlt hk
  go_wp2
  go_ret
  exact ⟨false, rfl, fun _ => HFW.out, hR.out.fp⟩
 have q6 : ((5000 : Int) ≤ N) = True := eq_true (by omega)
 clear hN5 hlt hk
 go_wp2
 go_ret
 exact ⟨true, rfl, fun h => by simp at h, hR.out.fp⟩
structure GtM (l : List Tu) (w : World) (k : Nat) (N : Int) (wr : World) : Prop where
 fp : Fp Non w wr
 lo : (l.length : Int) ≤ N
 eq : ∀ j (h : j < l.length), j < k → min (l[j].dir.length : Int) 3000 ≤ N
theorem min3 (a : Nat) : (0 : Int) ≤ min (a : Int) 3000 ∧ min (a : Int) 3000 ≤ 3000 := by omega
theorem GtM.next {l : List Tu} {w wr wr' : World} {k : Nat} {N : Int} (h : GtM l w k N wr) (f : Fp Non wr wr') (hk : k < l.length) :
  GtM l w (k + 1) (N + min (l[k].dir.length : Int) 3000) wr' := by
 have hN : 0 ≤ N := by have := h.lo; omega
 have m1 := min3 l[k].dir.length
 refine ⟨h.fp.then f, by have := h.lo; omega, fun j hj hjk => ?_⟩
 rcases Nat.lt_or_eq_of_le (show j ≤ k by omega) with e | e
 ·have := h.eq j hj e
  omega
 subst e
 omega
theorem GtM.few {l : List Tu} {w wr : World} {k : Nat} {N : Int} (h : GtM l w k N wr) (hk : k = l.length) (hN : N < 3000) : l.length ≤ 3000 ∧ ∀ x ∈ l, x.dir.length ≤ 3000 := by
 refine ⟨by have := h.lo; omega, fun x hx => ?_⟩
 obtain ⟨j, hj, rfl⟩ := List.getElem_of_mem hx
 have := h.eq j hj (by omega)
 omega
structure Gfew (s : St) : Prop where
 turns : s.turns.length ≤ 3000 ∧ ∀ x ∈ s.turns, x.dir.length ≤ 3000
 nodes : s.nodes.length ≤ 1667 ∧ ∀ x ∈ s.nodes, x.path.length ≤ 5000 ∧ x.data.length ≤ 5000
set_option maxHeartbeats 6000000 in
theorem GreatS_c (v : Value) (s : St) (w : World) (hv : Sto w v s) (hn : s.nodes.length ≤ 140737488355328) (ht : s.turns.length ≤ 140737488355328) :
  Calls Tryz.prog 15 #[v] w fun e w' => ∃ g : Bool, e = .returned (.bool g) ∧ (g = false → Gfew s) ∧ Fp Non w w' := by
 obtain ⟨vn, vt, rfl, h1, h2⟩ := hv.ex
 obtain ⟨at_, ct, rfl⟩ := h2.shape
 obtain ⟨n, hnn⟩ : ∃ n, n = s.turns.length := ⟨_, rfl⟩
 have hbx := heap_alloc_new w (.cells #[vn, .slice at_ s.turns.length ct] 25)
 have hfa := fp_alloc w (.cells #[vn, .slice at_ s.turns.length ct] 25)
 have hgr := fun w' (f : Fp Non w w') => Great_c vn s.nodes w' (h1.non f) hn
 have h2' := h2
 rw [← hnn] at h2' hbx hfa
 have HX := Lib.hid (And.intro hnn (And.intro h2' (And.intro hgr (And.intro hbx hfa))))
 rw [← hnn]
 have hnb : n ≤ 140737488355328 := by omega
 clear h1 h2 h2' hn ht hnn hv hbx hfa hgr
 go_enter Tryz.func15, Tryz.ntmps15
 go_wp2_with fail
 go_loopw [3, 4] (fun m i wr => ∃ k : Nat, k ≤ n ∧ i = .int .i64 k ∧ ∃ N : Int, m = .int .i64 N ∧ (0 ≤ N ∧ N ≤ 140737488355328) ∧ Hid (GtM s.turns w k N wr ∧ wr.heap[w.heap.size]? = some (.cells #[vn, .slice at_ n ct] 25 (0, 0)))) (fun _ i _ => n - (RowKit.intOf i).toNat)
 case atStart => exact ⟨0, Nat.zero_le _, rfl, (n : Int), by go_num, by omega, ⟨HX.out.2.2.2.2, by rw [HX.out.1]; exact Int.le_refl _, fun j _ h => absurd h (Nat.not_lt_zero j)⟩, HX.out.2.2.2.1⟩
 obtain ⟨k, hk, rfl, N, rfl, hN, hR⟩ := hrel
 rename_i wr _
 have r0 : wr.cell? ⟨w.heap.size, 0, none⟩ = some vn := by rw [cell_of_row _ _ _ _ _ _ hR.out.2]; rfl
 have r1 : wr.cell? ⟨w.heap.size, 1, none⟩ = some (.slice at_ n ct) := by rw [cell_of_row _ _ _ _ _ _ hR.out.2]; rfl
 by_cases hlt : k < n
 ·have hkl : k < s.turns.length := by rw [← HX.out.1]; exact hlt
  have q3 : ((k : Int) < (n : Int)) = True := eq_true (by omega)
  have q4 : (k < n) = True := eq_true hlt
  by_cases hN5 : N < 3000
  ·have q5 : (N < 3000) = True := eq_true hN5
   obtain ⟨g, o, cap', e, _, _, _, hcell⟩ := (HX.out.2.1.non hR.out.1.fp).at (by omega)
   injection e with e1 e2 e3
   subst e1 e3
   have hnd := hcell k hkl
   clear hcell e2
   have hnx := fun wr' f => hR.out.1.next (wr' := wr') f hkl
   have HNX := Lib.hid hnx
   have HL := Lib.hid (And.intro hlt hN5)
   clear hnx hlt hN5
   generalize s.turns[k] = x at *
   clear hkl
   have c0 := hnd.c0
   unfold strV at c0
   have HB := Lib.hid (min3 x.dir.length)
   clear hnd
   go_wp2
   have hb := HB.out
   have hj := HL.out
   go_roundw
   case rel => exact ⟨k + 1, by omega, by go_num, _, rfl, ⟨by omega, by omega⟩, HNX.out _ (Fp.refl _ _), hR.out.2⟩
   case measure => simp [RowKit.intOf]; omega
  have q5 : (N < 3000) = False := eq_false hN5
  have q6 : ((3000 : Int) ≤ N) = True := eq_true (by omega)
  clear hN5 hkl hlt
  go_wp2
  go_ret
  exact ⟨true, rfl, fun h => by simp at h, hR.out.1.fp⟩
 have hke : k = n := by omega
 subst hke
 have q3 : ((k : Int) < (k : Int)) = False := eq_false (by omega)
 by_cases hN5 : N < 3000
 ·have q6 : ((3000 : Int) ≤ N) = False := eq_false (by omega)
  have hfw := hR.out.1.few HX.out.1 hN5
  have HFW := Lib.hid hfw
  clear hfw hN5 hlt hk
  go_wp2_with fail
  refine (HX.out.2.2.1 _ hR.out.1.fp).mono ?_
  rintro e w1 ⟨g, rfl, hg, hf⟩
  have HG := Lib.hid (And.intro hg (hR.out.1.fp.then hf))
  clear hg hf r0 r1
  go_wp2
  go_ret
  exact ⟨g, rfl, fun h => ⟨HFW.out, HG.out.1 h⟩, HG.out.2⟩
 have q6 : ((3000 : Int) ≤ N) = True := eq_true (by omega)
 clear hN5 hlt hk
 go_wp2
 go_ret
 exact ⟨true, rfl, fun h => by simp at h, hR.out.1.fp⟩
end Go.Proofs.YtphoglepiegeiaaGreatDoor
