/- A text of this proof. -/
import Derived.Test.YtphoglepiegeiaaGreatDoorZCC
import Derived.Test.YtphoglepiegeiaaGreatDoorZCD
import Derived.Test.YtphoglepiegeiaaGreatDoorZCF
import Derived.Test.YtphoglepiegeiaaGreatDoorZCM
import Derived.Test.YtphoglepiegeiaaGreatDoorZCN
set_option linter.unusedSimpArgs false
set_option linter.unusedVariables false
namespace Go.Proofs.YtphoglepiegeiaaGreatDoor
set_option maxRecDepth 20000
open Go.RowKit Pm
structure Sto (w : World) (v : Value) (s : St) : Prop where
 ex : ∃ vn vt, v = .agg #[vn, vt] ∧ Ns w vn s.nodes ∧ Ts w vt s.turns
theorem Sto.non {w w' : World} {v : Value} {s : St} (h : Sto w v s) (f : Fp Non w w') : Sto w' v s := by
 obtain ⟨vn, vt, e, h1, h2⟩ := h.ex
 exact ⟨vn, vt, e, h1.non f, h2.non f⟩
theorem bxN (wr : World) (x : Nd) : NdAt (wr.alloc (Obj.cells #[.string (B x.path), .string (B x.data), .int .i64 x.ver, .int .i64 x.turn, .int .i64 x.own] TN)).drew wr.heap.size 0 x := by
 have h := heap_alloc_new wr (Obj.cells #[.string (B x.path), .string (B x.data), .int .i64 x.ver, .int .i64 x.turn, .int .i64 x.own] TN)
 have hb : NdAt (wr.alloc (Obj.cells #[.string (B x.path), .string (B x.data), .int .i64 x.ver, .int .i64 x.turn, .int .i64 x.own] TN)) wr.heap.size 0 x := ⟨by rw [cell_of_row _ _ _ _ _ _ h]; rfl, by rw [cell_of_row _ _ _ _ _ _ h]; rfl, by rw [cell_of_row _ _ _ _ _ _ h]; rfl, by rw [cell_of_row _ _ _ _ _ _ h]; rfl, by rw [cell_of_row _ _ _ _ _ _ h]; rfl⟩
 exact hb.keep ((Fp.refl Non _).drew) id
theorem notUp {a z : Bs} (h : (Op.bytesLess a z || a == z) = true) : lt z a = false := by
 simp only [Bool.or_eq_true, beq_iff_eq] at h
 rcases h with h | rfl
 ·exact lt_asymm h
 exact lt_irrefl _
theorem isUp {a z : Bs} (h : (Op.bytesLess a z || a == z) = false) : lt z a = true := by
 simp only [Bool.or_eq_false_iff, beq_eq_false_iff_ne] at h
 exact lt_of h.1 h.2
def ChkN (l : List Nd) (j : Nat) (hj : j < l.length) : Prop := sfit l[j] = true ∧ (0 < j → ∀ h : j - 1 < l.length, lt l[j-1].path l[j].path = true)
theorem chkN_right {s : St} (h : StR s) : ∀ j (hj : j < s.nodes.length), ChkN s.nodes j hj := fun j hj =>
 ⟨h.fit _ (List.getElem_mem hj), fun h0 h1 => h.asc (j - 1) j h1 hj (by omega)⟩
def ChkT (l : List Tu) (j : Nat) (hj : j < l.length) : Prop := tfit l[j] = true ∧ (0 < j → ∀ h : j - 1 < l.length, lt l[j-1].dir l[j].dir = true)
theorem chkT_right {s : St} (h : StR s) : ∀ j (hj : j < s.turns.length), ChkT s.turns j hj := fun j hj =>
 ⟨h.tfit _ (List.getElem_mem hj), fun h0 h1 => h.tasc (j - 1) j h1 hj (by omega)⟩
theorem chkT_all {l : List Tu} (h : ∀ j (hj : j < l.length), ChkT l j hj) : (∀ t ∈ l, tfit t = true) ∧ AscT l :=
 ⟨fun n hn => by obtain ⟨i, hi, rfl⟩ := List.getElem_of_mem hn; exact (h i hi).1, ascT_iff.2 (asc_of fun i hi => by
  rw [List.length_map] at hi
  have := (h (i + 1) hi).2 (by omega) (by omega)
  simp only [List.getElem_map]
  show lt l[i].dir l[i+1].dir = true
  simpa using this)⟩
theorem bxT (wr : World) (x : Tu) : TuAt (wr.alloc (Obj.cells #[.string (B x.dir), .int .i64 x.next] TU)).drew wr.heap.size 0 x := by
 have h := heap_alloc_new wr (Obj.cells #[.string (B x.dir), .int .i64 x.next] TU)
 have hb : TuAt (wr.alloc (Obj.cells #[.string (B x.dir), .int .i64 x.next] TU)) wr.heap.size 0 x := ⟨by rw [cell_of_row _ _ _ _ _ _ h]; rfl, by rw [cell_of_row _ _ _ _ _ _ h]; rfl⟩
 exact hb.keep ((Fp.refl Non _).drew) id
theorem chkN_all {l : List Nd} (h : ∀ j (hj : j < l.length), ChkN l j hj) : (∀ n ∈ l, sfit n = true) ∧ Asc l :=
 ⟨fun n hn => by obtain ⟨i, hi, rfl⟩ := List.getElem_of_mem hn; exact (h i hi).1, asc_of fun i hi => by have := (h (i + 1) hi).2 (by omega) (by omega); simpa using this⟩
set_option maxHeartbeats 16000000 in
theorem rightP_c (v : Value) (s : St) (w : World) (hv : Sto w v s) (hs : Sp s.nodes) (hn : s.nodes.length ≤ 1000000) (hst : ∀ t ∈ s.turns, t.dir.length ≤ 1000000) (hmm : s.turns.length ≤ 1000000) :
  Calls Tryz.prog 19 #[v] w fun e w' => e = .returned (.bool (rightS s)) ∧ Fp Non w w' := by
 obtain ⟨vn, vt, rfl, h1, h2⟩ := hv.ex
 obtain ⟨ao, cap, rfl⟩ := h1.shape
 obtain ⟨at', capt, rfl⟩ := h2.shape
 obtain ⟨n, hnn⟩ : ∃ n, n = s.nodes.length := ⟨_, rfl⟩
 obtain ⟨m, hm⟩ : ∃ m, m = s.turns.length := ⟨_, rfl⟩
 obtain ⟨r, hr⟩ : ∃ r, rightS s = r := ⟨_, rfl⟩
 have HNone := zI (show ∀ k (hk : k < s.nodes.length), ¬ ChkN s.nodes k hk → r = false from fun k hk h => by rw [← hr]; exact rightS_false (fun c => h (chkN_right c k hk)))
 have HX := zI (yI hnn (yI h1 hs))
 have HT := zI (yI hm (yI h2 (yI hst hr)))
 have hmb : m ≤ 1000000 := by omega
 rw [hr, ← hnn, ← hm]
 have HB0 := zI (show (w.alloc (Obj.cells #[.slice ao n cap, .slice at' m capt] 25)).cell? ⟨w.heap.size, 0, none⟩ = some (.slice ao n cap) ∧ (w.alloc (Obj.cells #[.slice ao n cap, .slice at' m capt] 25)).cell? ⟨w.heap.size, 1, none⟩ = some (.slice at' m capt) from ⟨by rw [cell_of_row _ _ _ _ _ _ (heap_alloc_new w _)]; rfl, by rw [cell_of_row _ _ _ _ _ _ (heap_alloc_new w _)]; rfl⟩)
 have HF0 := zI (fp_alloc w (Obj.cells #[.slice ao n cap, .slice at' m capt] 25))
 have hnb : n ≤ 1000000 := by omega
 clear h1 h2 hv hs hn hnn hm hr hst hmm
 go_enter Tryz.func19, Tryz.ntmps19
 go_wp2_with fail
 obtain ⟨W0, hW0⟩ : ∃ W0, W0 = w.alloc (Obj.cells #[.slice ao n cap, .slice at' m capt] 25) := ⟨_, rfl⟩
 rw [← hW0] at HB0 HF0 ⊢
 clear hW0
 go_loopw [10] (fun i wr => ∃ k : Nat, k ≤ n ∧ i = .int .i64 k ∧ Hid (Fp Non W0 wr ∧ ∀ j (hj : j < s.nodes.length), j < k → ChkN s.nodes j hj)) (fun i _ => n - (RowKit.intOf i).toNat)
 case atStart => exact ⟨0, Nat.zero_le _, rfl, Fp.refl _ _, fun j _ h => absurd h (Nat.not_lt_zero j)⟩
 obtain ⟨k, hk, rfl, hR⟩ := hrel
 rename_i wr _
 by_cases hlt : k < n
 ·have hkl : k < s.nodes.length := by rw [← HX.out.1]; exact hlt
  obtain ⟨g, o, cap', e, _, _, _, hcell⟩ := HX.out.2.1.at (by omega)
  injection e with e1 e2 e3
  subst e1 e3
  have f0 := HF0.out.then hR.out.1
  have hnd := (hcell k hkl).keep f0 id
  obtain ⟨x, hx⟩ : ∃ x, x = s.nodes[k] := ⟨_, rfl⟩
  rw [← hx] at hnd
  have c0 := hnd.c0; have c1 := hnd.c1; have c2 := hnd.c2; have c3 := hnd.c3; have c4 := hnd.c4
  unfold strV at c0 c1
  have q3 : ((k : Int) < (n : Int)) = True := eq_true (by omega)
  have q4 : (k < n) = True := eq_true hlt
  have hxp : x.path.length ≤ 1000000 := HX.out.2.2 x (by rw [hx]; exact List.getElem_mem hkl)
  have hfc := fun w => fitsP_c x w hxp
  unfold ndV strV at hfc
  have hbb := bxN wr x
  have HB := zI (yI (((Fp.refl Non wr).alloc (Obj.cells #[.string (B x.path), .string (B x.data), .int .i64 x.ver, .int .i64 x.turn, .int .i64 x.own] TN)).drew) hbb)
  have HW := zI (f0)
  have HR0 := zI hR.out.1
  have HK := zI hlt
  have hst : (wr.alloc (Obj.cells #[.string (B x.path), .string (B x.data), .int .i64 x.ver, .int .i64 x.turn, .int .i64 x.own] TN)).drew.cell? ⟨w.heap.size, 0, none⟩ = some (.slice (some ⟨g, o, none⟩) n cap) := HB.out.1.cell (hR.out.1.cell HB0.out.1 id) id
  have hpc : ∀ k', k' < s.nodes.length → ∃ z, (wr.alloc (Obj.cells #[.string (B x.path), .string (B x.data), .int .i64 x.ver, .int .i64 x.turn, .int .i64 x.own] TN)).drew.cell? ⟨g, o + k' * 5, none⟩ = some (.string (B z)) ∧ ∀ h : k' < s.nodes.length, z = (s.nodes[k']).path := fun k' h => ⟨_, HB.out.1.cell ((hcell k' h).keep f0 id).c0 id, fun _ => rfl⟩
  have hold := hR.out.2
  have hstep : sfit x = true → (0 < k → ∀ h : k - 1 < s.nodes.length, lt (s.nodes[k-1]).path x.path = true) → ∀ j (hj : j < s.nodes.length), j < k + 1 → ChkN s.nodes j hj := fun a b j hj hjk => by
   rcases Nat.lt_or_eq_of_le (show j ≤ k by omega) with e | e
   ·exact hold j hj e
   subst e; exact ⟨by rw [← hx]; exact a, fun h0 h1 => by rw [← hx]; exact b h0 h1⟩
  have hno : (sfit x = false ∨ (0 < k ∧ ∃ h : k - 1 < s.nodes.length, lt (s.nodes[k-1]).path x.path = false)) → r = false := fun h => HNone.out k hkl (fun c => by
   rcases h with h | ⟨h0, h1, h2⟩
   ·have := c.1; rw [← hx, h] at this; cases this
   have := c.2 h0 h1; rw [← hx, h2] at this; cases this)
  obtain ⟨fx, hfx⟩ : ∃ b, sfit x = b := ⟨_, rfl⟩
  rw [hfx] at hfc hstep hno
  have HFC := zI hfc
  have HST := zI (yI hstep (yI hno (yI hst (yI hpc hkl))))
  clear hfc hbb hst hpc hold hstep hno hfx hxp hx hnd hcell f0
  cases fx with
  | false =>
   have HNO := zI (HST.out.2.1 (.inl rfl))
   clear hkl hlt hk
   go_wp2_with fail
   refine wp_region_held_drew (S := (fun w' => w'.cell? ⟨wr.heap.size, 0, none⟩ = some (.string (B x.path)) ∧ w'.cell? ⟨wr.heap.size, 1, none⟩ = some (.string (B x.data)) ∧ w'.cell? ⟨wr.heap.size, 2, none⟩ = some (.int .i64 x.ver) ∧ w'.cell? ⟨wr.heap.size, 3, none⟩ = some (.int .i64 x.turn) ∧ w'.cell? ⟨wr.heap.size, 4, none⟩ = some (.int .i64 x.own))) (by kernel_rfl) ?_ (fun hH => ?_)
   ·exact ⟨HB.out.2.c0, HB.out.2.c1, HB.out.2.c2, HB.out.2.c3, HB.out.2.c4⟩
   refine tk 0 hH ?_
   refine rY 1 fun K hK => ?_
   go_simp
   go_at_call 63
   refine (HFC.out _).mono ?_
   rintro e w1 ⟨rfl, f1⟩
   have b1 := HB.out.2.keep f1 id
   have HS1 := zI (yI b1.c0 (yI b1.c1 (yI b1.c2 (yI b1.c3 b1.c4))))
   have F := zI (HB.out.1.then f1)
   clear f1 b1
   go_wp2_with fail
   refine hK.out _ _ HS1.out (fun hH => ?_)
   clear hK K
   try simp only [zz]
   refine tk 2 hH ?_
   refine tk 3 hH ?_
   refine sk 4 hH ?_
   refine sk 5 hH ?_
   refine sk 6 hH ?_
   refine sk 7 hH ?_
   refine sk 8 hH ?_
   refine sk 9 hH ?_
   refine sk 10 hH ?_
   refine sk 11 hH ?_
   refine sk 12 hH ?_
   refine sk 13 hH ?_
   refine sk 14 hH ?_
   refine sk 15 hH ?_
   refine sk 16 hH ?_
   refine sk 17 hH ?_
   refine tk 18 hH ?_
   refine dn ?_
   go_wp2
   go_ret
   exact ⟨ret_bool HNO.out.symm, HW.out.then F.out⟩
  | true => ?_
  rcases Nat.eq_zero_or_pos k with hk0 | hk0
  ·subst hk0
   simp only [Nat.zero_mul, Nat.add_zero] at c0 c1 c2 c3 c4
   have HNX := zI (HST.out.1 rfl (fun h => absurd h (by omega)))
   clear hkl hlt hk
   go_wp2_with fail
   refine wp_region_held_drew (S := (fun w' => w'.cell? ⟨wr.heap.size, 0, none⟩ = some (.string (B x.path)) ∧ w'.cell? ⟨wr.heap.size, 1, none⟩ = some (.string (B x.data)) ∧ w'.cell? ⟨wr.heap.size, 2, none⟩ = some (.int .i64 x.ver) ∧ w'.cell? ⟨wr.heap.size, 3, none⟩ = some (.int .i64 x.turn) ∧ w'.cell? ⟨wr.heap.size, 4, none⟩ = some (.int .i64 x.own))) (by kernel_rfl) ?_ (fun hH => ?_)
   ·exact ⟨HB.out.2.c0, HB.out.2.c1, HB.out.2.c2, HB.out.2.c3, HB.out.2.c4⟩
   refine tk 0 hH ?_
   refine rY 1 fun K hK => ?_
   go_simp
   go_at_call 63
   refine (HFC.out _).mono ?_
   rintro e w1 ⟨rfl, f1⟩
   have b1 := HB.out.2.keep f1 id
   have HS1 := zI (yI b1.c0 (yI b1.c1 (yI b1.c2 (yI b1.c3 b1.c4))))
   have F := zI (HB.out.1.then f1)
   clear f1 b1
   go_wp2_with fail
   refine hK.out _ _ HS1.out (fun hH => ?_)
   clear hK K
   try simp only [zz]
   refine tk 2 hH ?_
   refine tk 3 hH ?_
   refine tk 4 hH ?_
   refine tk 5 hH ?_
   refine tk 6 hH ?_
   refine sk 7 hH ?_
   refine sk 8 hH ?_
   refine sk 9 hH ?_
   refine sk 10 hH ?_
   refine sk 11 hH ?_
   refine sk 12 hH ?_
   refine sk 13 hH ?_
   refine sk 14 hH ?_
   refine sk 15 hH ?_
   refine sk 16 hH ?_
   refine tk 17 hH ?_
   refine tk 18 hH ?_
   refine dn ?_
   have hkn := HK.out
   go_wp2
   go_roundw
   case rel => exact ⟨0 + 1, by have := HK.out; omega, by go_num, ⟨HR0.out.then F.out, HNX.out⟩⟩
   case measure => have := HK.out; simp [RowKit.intOf]; omega
  obtain ⟨z, hz, hz2⟩ := HST.out.2.2.2.1 (k - 1) (by omega)
  have HP := zI (yI HST.out.2.2.1 hz)
  have hkm : k - 1 < s.nodes.length := by omega
  have HZ := zI (yI (hz2 hkm) (yI hk0 hkm))
  have wk : IntKind.i64.wrap ((k : Int) - 1) = ((k - 1 : Nat) : Int) := by rw [IntKind.wrap_i64]; omega
  have qz : ((0 : Int) < (k : Int)) = True := eq_true (by omega)
  have qz2 : (0 < k) = True := eq_true hk0
  have qn : (((k - 1 : Nat) : Int) < (n : Int)) = True := eq_true (by omega)
  have qn2 : (k - 1 < n) = True := eq_true (by omega)
  by_cases hle : (Op.bytesLess x.path z || x.path == z) = true
  ·have HNO := zI (HST.out.2.1 (.inr ⟨HZ.out.2.1, HZ.out.2.2, by rw [← HZ.out.1]; exact notUp hle⟩))
   clear hlt hk hk0 hz hz2
   go_wp2_with fail
   refine wp_region_held_drew (S := (fun w' => w'.cell? ⟨wr.heap.size, 0, none⟩ = some (.string (B x.path)) ∧ w'.cell? ⟨wr.heap.size, 1, none⟩ = some (.string (B x.data)) ∧ w'.cell? ⟨wr.heap.size, 2, none⟩ = some (.int .i64 x.ver) ∧ w'.cell? ⟨wr.heap.size, 3, none⟩ = some (.int .i64 x.turn) ∧ w'.cell? ⟨wr.heap.size, 4, none⟩ = some (.int .i64 x.own) ∧ w'.cell? ⟨w.heap.size, 0, none⟩ = some (.slice (some ⟨g, o, none⟩) n cap) ∧ w'.cell? ⟨g, o + (k - 1) * 5, none⟩ = some (.string (B z)))) (by kernel_rfl) ?_ (fun hH => ?_)
   ·exact ⟨HB.out.2.c0, HB.out.2.c1, HB.out.2.c2, HB.out.2.c3, HB.out.2.c4, HP.out.1, HP.out.2⟩
   refine tk 0 hH ?_
   refine rY 1 fun K hK => ?_
   go_simp
   go_at_call 63
   refine (HFC.out _).mono ?_
   rintro e w1 ⟨rfl, f1⟩
   have b1 := HB.out.2.keep f1 id
   have HS1 := zI (yI b1.c0 (yI b1.c1 (yI b1.c2 (yI b1.c3 (yI b1.c4 (yI (f1.cell HP.out.1 id) (f1.cell HP.out.2 id)))))))
   have F := zI (HB.out.1.then f1)
   clear f1 b1
   go_wp2_with fail
   refine hK.out _ _ HS1.out (fun hH => ?_)
   clear hK K
   try simp only [zz]
   refine tk 2 hH ?_
   refine tk 3 hH ?_
   refine tk 4 hH ?_
   refine tk 5 hH ?_
   refine tk 6 hH ?_
   refine tk 7 hH ?_
   refine tk 8 hH ?_
   refine tk 9 hH ?_
   refine tk 10 hH ?_
   refine tk 11 hH ?_
   refine tk 12 hH ?_
   refine tk 13 hH ?_
   refine tk 14 hH ?_
   refine tk 15 hH ?_
   refine tk 16 hH ?_
   refine tk 17 hH ?_
   refine tk 18 hH ?_
   refine dn ?_
   go_wp2
   go_ret
   exact ⟨ret_bool HNO.out.symm, HW.out.then F.out⟩
  have hle' : (Op.bytesLess x.path z || x.path == z) = false := by simpa using hle
  have HNX := zI (HST.out.1 rfl (fun _ h => by rw [← HZ.out.1]; exact isUp hle'))
  clear hlt hk hk0 hz hz2 hle
  go_wp2_with fail
  refine wp_region_held_drew (S := (fun w' => w'.cell? ⟨wr.heap.size, 0, none⟩ = some (.string (B x.path)) ∧ w'.cell? ⟨wr.heap.size, 1, none⟩ = some (.string (B x.data)) ∧ w'.cell? ⟨wr.heap.size, 2, none⟩ = some (.int .i64 x.ver) ∧ w'.cell? ⟨wr.heap.size, 3, none⟩ = some (.int .i64 x.turn) ∧ w'.cell? ⟨wr.heap.size, 4, none⟩ = some (.int .i64 x.own) ∧ w'.cell? ⟨w.heap.size, 0, none⟩ = some (.slice (some ⟨g, o, none⟩) n cap) ∧ w'.cell? ⟨g, o + (k - 1) * 5, none⟩ = some (.string (B z)))) (by kernel_rfl) ?_ (fun hH => ?_)
  ·exact ⟨HB.out.2.c0, HB.out.2.c1, HB.out.2.c2, HB.out.2.c3, HB.out.2.c4, HP.out.1, HP.out.2⟩
  refine tk 0 hH ?_
  refine rY 1 fun K hK => ?_
  go_simp
  go_at_call 63
  refine (HFC.out _).mono ?_
  rintro e w1 ⟨rfl, f1⟩
  have b1 := HB.out.2.keep f1 id
  have HS1 := zI (yI b1.c0 (yI b1.c1 (yI b1.c2 (yI b1.c3 (yI b1.c4 (yI (f1.cell HP.out.1 id) (f1.cell HP.out.2 id)))))))
  have F := zI (HB.out.1.then f1)
  clear f1 b1
  go_wp2_with fail
  refine hK.out _ _ HS1.out (fun hH => ?_)
  clear hK K
  try simp only [zz]
  refine tk 2 hH ?_
  refine tk 3 hH ?_
  refine tk 4 hH ?_
  refine tk 5 hH ?_
  refine tk 6 hH ?_
  refine tk 7 hH ?_
  refine tk 8 hH ?_
  refine tk 9 hH ?_
  refine tk 10 hH ?_
  refine tk 11 hH ?_
  refine tk 12 hH ?_
  refine tk 13 hH ?_
  refine tk 14 hH ?_
  refine tk 15 hH ?_
  refine tk 16 hH ?_
  refine tk 17 hH ?_
  refine tk 18 hH ?_
  refine dn ?_
  have hkn := HK.out
  go_wp2
  go_roundw
  case rel => exact ⟨k + 1, by have := HK.out; omega, by go_num, ⟨HR0.out.then F.out, HNX.out⟩⟩
  case measure => have := HK.out; simp [RowKit.intOf]; omega
 have hke : k = n := by omega
 subst hke
 have q3 : ((k : Int) < (k : Int)) = False := eq_false (by omega)
 have t1 := hR.out.1.cell HB0.out.2 id
 clear hlt hk
 go_wp2_with fail
 have HN9 := zI (chkN_all (fun j hj => hR.out.2 j hj (by rw [HX.out.1]; exact hj)))
 have HNoT := zI (show ∀ i (hi : i < s.turns.length), ¬ ChkT s.turns i hi → r = false from fun i hi h => by rw [← HT.out.2.2.2]; exact rightS_false (fun c => h (chkT_right c i hi)))
 obtain ⟨W1, hW1⟩ : ∃ W1, W1 = wr := ⟨_, rfl⟩
 have HF1 := zI (HF0.out.then hR.out.1)
 have T1 := zI t1
 rw [← hW1] at HF1 T1 ⊢
 clear hW1 hR t1 HB0
 go_loopw [38] (fun i wr2 => ∃ k : Nat, k ≤ m ∧ i = .int .i64 k ∧ Hid (Fp Non W1 wr2 ∧ ∀ j (hj : j < s.turns.length), j < k → ChkT s.turns j hj)) (fun i _ => m - (RowKit.intOf i).toNat)
 case atStart => exact ⟨0, Nat.zero_le _, rfl, Fp.refl _ _, fun j _ h => absurd h (Nat.not_lt_zero j)⟩
 obtain ⟨k, hk, rfl, hR⟩ := hrel
 rename World => wr2
 by_cases hlt : k < m
 ·have hkl : k < s.turns.length := by rw [← HT.out.1]; exact hlt
  obtain ⟨g, o, cap', e, _, _, _, hcell⟩ := HT.out.2.1.at (by omega)
  injection e with e1 e2 e3
  subst e1 e3
  have f0 := HF1.out.then hR.out.1
  have hnd := (hcell k hkl).keep f0 id
  obtain ⟨x, hx⟩ : ∃ x, x = s.turns[k] := ⟨_, rfl⟩
  rw [← hx] at hnd
  have c0 := hnd.c0; have c1 := hnd.c1
  unfold strV at c0
  have q3 : ((k : Int) < (m : Int)) = True := eq_true (by omega)
  have q4 : (k < m) = True := eq_true hlt
  have hxp : x.dir.length ≤ 1000000 := HT.out.2.2.1 x (by rw [hx]; exact List.getElem_mem hkl)
  have hri := fun w => Right_g x.dir w (sz_of hxp (by omega))
  have hwi := fun w b h => withinP_d x.next 1 10000 w b h
  have hbb := bxT wr2 x
  have HB := zI (yI (((Fp.refl Non wr2).alloc (Obj.cells #[.string (B x.dir), .int .i64 x.next] TU)).drew) hbb)
  have HW := zI (f0)
  have HR0 := zI hR.out.1
  have HK := zI hlt
  have hst : (wr2.alloc (Obj.cells #[.string (B x.dir), .int .i64 x.next] TU)).drew.cell? ⟨w.heap.size, 1, none⟩ = some (.slice (some ⟨g, o, none⟩) m capt) := HB.out.1.cell (hR.out.1.cell T1.out id) id
  have hpc : ∀ k', k' < s.turns.length → ∃ z, (wr2.alloc (Obj.cells #[.string (B x.dir), .int .i64 x.next] TU)).drew.cell? ⟨g, o + k' * 2, none⟩ = some (.string (B z)) ∧ ∀ h : k' < s.turns.length, z = (s.turns[k']).dir := fun k' h => ⟨_, HB.out.1.cell ((hcell k' h).keep f0 id).c0 id, fun _ => rfl⟩
  have hold := hR.out.2
  obtain ⟨sp, hsp⟩ : ∃ b, (split x.dir).isSome = b := ⟨_, rfl⟩
  obtain ⟨b1, hb1⟩ : ∃ b, decide (1 ≤ x.next ∧ x.next ≤ 10000) = b := ⟨_, rfl⟩
  have hfit : tfit x = (sp && b1) := by rw [← hsp, ← hb1]; rfl
  have hstep : (sp && b1) = true → (0 < k → ∀ h : k - 1 < s.turns.length, lt (s.turns[k-1]).dir x.dir = true) → ∀ j (hj : j < s.turns.length), j < k + 1 → ChkT s.turns j hj := fun a b j hj hjk => by
   rcases Nat.lt_or_eq_of_le (show j ≤ k by omega) with e | e
   ·exact hold j hj e
   subst e; exact ⟨by rw [← hx, hfit]; exact a, fun h0 h1 => by rw [← hx]; exact b h0 h1⟩
  have hno : ((sp && b1) = false ∨ (0 < k ∧ ∃ h : k - 1 < s.turns.length, lt (s.turns[k-1]).dir x.dir = false)) → r = false := fun h => HNoT.out k hkl (fun c => by
   rcases h with h | ⟨h0, h1, h2⟩
   ·have := c.1; rw [← hx, hfit, h] at this; cases this
   have := c.2 h0 h1; rw [← hx, h2] at this; cases this)
  rw [hsp] at hri
  have HRI := zI hri
  have HWI := zI (fun w => hwi w b1 hb1)
  have HST := zI (yI hstep (yI hno (yI hst (yI hpc hkl))))
  clear hri hwi hbb hst hpc hold hstep hno hfit hsp hb1 hxp hx hnd hcell f0
  cases sp with
  | false =>
   have HNO := zI (HST.out.2.1 (.inl rfl))
   clear hkl hlt hk
   go_wp2_with fail
   refine wp_region_held_drew (S := (fun w' => w'.cell? ⟨wr2.heap.size, 0, none⟩ = some (.string (B x.dir)) ∧ w'.cell? ⟨wr2.heap.size, 1, none⟩ = some (.int .i64 x.next))) (by kernel_rfl) ?_ (fun hH => ?_)
   ·exact ⟨HB.out.2.c0, HB.out.2.c1⟩
   refine tk 0 hH ?_
   refine tk 1 hH ?_
   refine rY 2 fun K hK => ?_
   go_simp
   go_at_call 64
   refine (HRI.out _).mono ?_
   rintro e w1 ⟨rfl, f1⟩
   have b1 := HB.out.2.keep f1.fp id
   have HS1 := zI (yI b1.c0 b1.c1)
   have F := zI (HB.out.1.then f1.fp)
   clear f1 b1
   go_wp2_with fail
   refine hK.out _ _ HS1.out (fun hH => ?_)
   clear hK K
   try simp only [zz]
   refine tk 3 hH ?_
   refine tk 4 hH ?_
   refine sk 5 hH ?_
   refine sk 6 hH ?_
   refine sk 7 hH ?_
   refine sk 8 hH ?_
   refine tk 9 hH ?_
   refine tk 10 hH ?_
   refine sk 11 hH ?_
   refine sk 12 hH ?_
   refine sk 13 hH ?_
   refine sk 14 hH ?_
   refine sk 15 hH ?_
   refine sk 16 hH ?_
   refine sk 17 hH ?_
   refine sk 18 hH ?_
   refine sk 19 hH ?_
   refine sk 20 hH ?_
   refine sk 21 hH ?_
   refine sk 22 hH ?_
   refine sk 23 hH ?_
   refine sk 24 hH ?_
   refine tk 25 hH ?_
   refine dn ?_
   go_wp2
   go_ret
   exact ⟨ret_bool HNO.out.symm, HW.out.then F.out⟩
  | true => ?_
  cases b1 with
  | false =>
   have HNO := zI (HST.out.2.1 (.inl rfl))
   clear hkl hlt hk
   go_wp2_with fail
   refine wp_region_held_drew (S := (fun w' => w'.cell? ⟨wr2.heap.size, 0, none⟩ = some (.string (B x.dir)) ∧ w'.cell? ⟨wr2.heap.size, 1, none⟩ = some (.int .i64 x.next))) (by kernel_rfl) ?_ (fun hH => ?_)
   ·exact ⟨HB.out.2.c0, HB.out.2.c1⟩
   refine tk 0 hH ?_
   refine tk 1 hH ?_
   refine rY 2 fun K hK => ?_
   go_simp
   go_at_call 64
   refine (HRI.out _).mono ?_
   rintro e w1 ⟨rfl, f1⟩
   have b1 := HB.out.2.keep f1.fp id
   have HS1 := zI (yI b1.c0 b1.c1)
   have F := zI (HB.out.1.then f1.fp)
   clear f1 b1
   go_wp2_with fail
   refine hK.out _ _ HS1.out (fun hH => ?_)
   clear hK K
   try simp only [zz]
   refine tk 3 hH ?_
   refine tk 4 hH ?_
   refine tk 5 hH ?_
   refine tk 6 hH ?_
   refine rY 7 fun K hK => ?_
   go_simp
   go_at_call 65
   refine (HWI.out _).mono ?_
   rintro e w2 ⟨rfl, rfl⟩
   go_wp2_with fail
   refine hK.out _ _ HS1.out (fun hH => ?_)
   clear hK K
   try simp only [zz]
   refine tk 8 hH ?_
   refine tk 9 hH ?_
   refine tk 10 hH ?_
   refine sk 11 hH ?_
   refine sk 12 hH ?_
   refine sk 13 hH ?_
   refine sk 14 hH ?_
   refine sk 15 hH ?_
   refine sk 16 hH ?_
   refine sk 17 hH ?_
   refine sk 18 hH ?_
   refine sk 19 hH ?_
   refine sk 20 hH ?_
   refine sk 21 hH ?_
   refine sk 22 hH ?_
   refine sk 23 hH ?_
   refine sk 24 hH ?_
   refine tk 25 hH ?_
   refine dn ?_
   go_wp2
   go_ret
   exact ⟨ret_bool HNO.out.symm, HW.out.then F.out⟩
  | true => ?_
  rcases Nat.eq_zero_or_pos k with hk0 | hk0
  ·subst hk0
   simp only [Nat.zero_mul, Nat.add_zero] at c0 c1
   have HNX := zI (HST.out.1 rfl (fun h => absurd h (by omega)))
   clear hkl hlt hk
   go_wp2_with fail
   refine wp_region_held_drew (S := (fun w' => w'.cell? ⟨wr2.heap.size, 0, none⟩ = some (.string (B x.dir)) ∧ w'.cell? ⟨wr2.heap.size, 1, none⟩ = some (.int .i64 x.next))) (by kernel_rfl) ?_ (fun hH => ?_)
   ·exact ⟨HB.out.2.c0, HB.out.2.c1⟩
   refine tk 0 hH ?_
   refine tk 1 hH ?_
   refine rY 2 fun K hK => ?_
   go_simp
   go_at_call 64
   refine (HRI.out _).mono ?_
   rintro e w1 ⟨rfl, f1⟩
   have b1 := HB.out.2.keep f1.fp id
   have HS1 := zI (yI b1.c0 b1.c1)
   have F := zI (HB.out.1.then f1.fp)
   clear f1 b1
   go_wp2_with fail
   refine hK.out _ _ HS1.out (fun hH => ?_)
   clear hK K
   try simp only [zz]
   refine tk 3 hH ?_
   refine tk 4 hH ?_
   refine tk 5 hH ?_
   refine tk 6 hH ?_
   refine rY 7 fun K hK => ?_
   go_simp
   go_at_call 65
   refine (HWI.out _).mono ?_
   rintro e w2 ⟨rfl, rfl⟩
   go_wp2_with fail
   refine hK.out _ _ HS1.out (fun hH => ?_)
   clear hK K
   try simp only [zz]
   refine tk 8 hH ?_
   refine tk 9 hH ?_
   refine tk 10 hH ?_
   refine tk 11 hH ?_
   refine tk 12 hH ?_
   refine tk 13 hH ?_
   refine sk 14 hH ?_
   refine sk 15 hH ?_
   refine sk 16 hH ?_
   refine sk 17 hH ?_
   refine sk 18 hH ?_
   refine sk 19 hH ?_
   refine sk 20 hH ?_
   refine sk 21 hH ?_
   refine sk 22 hH ?_
   refine sk 23 hH ?_
   refine tk 24 hH ?_
   refine tk 25 hH ?_
   refine dn ?_
   have hkn := HK.out
   go_wp2
   go_roundw
   case rel => exact ⟨0 + 1, by have := HK.out; omega, by go_num, ⟨HR0.out.then F.out, HNX.out⟩⟩
   case measure => have := HK.out; simp [RowKit.intOf]; omega
  obtain ⟨z, hz, hz2⟩ := HST.out.2.2.2.1 (k - 1) (by omega)
  have HP := zI (yI HST.out.2.2.1 hz)
  have hkm : k - 1 < s.turns.length := by omega
  have HZ := zI (yI (hz2 hkm) (yI hk0 hkm))
  have wk : IntKind.i64.wrap ((k : Int) - 1) = ((k - 1 : Nat) : Int) := by rw [IntKind.wrap_i64]; omega
  have qz : ((0 : Int) < (k : Int)) = True := eq_true (by omega)
  have qz2 : (0 < k) = True := eq_true hk0
  have qn : (((k - 1 : Nat) : Int) < (m : Int)) = True := eq_true (by omega)
  have qn2 : (k - 1 < m) = True := eq_true (by omega)
  by_cases hle : (Op.bytesLess x.dir z || x.dir == z) = true
  ·have HNO := zI (HST.out.2.1 (.inr ⟨HZ.out.2.1, HZ.out.2.2, by rw [← HZ.out.1]; exact notUp hle⟩))
   clear hlt hk hk0 hz hz2
   go_wp2_with fail
   refine wp_region_held_drew (S := (fun w' => w'.cell? ⟨wr2.heap.size, 0, none⟩ = some (.string (B x.dir)) ∧ w'.cell? ⟨wr2.heap.size, 1, none⟩ = some (.int .i64 x.next) ∧ w'.cell? ⟨w.heap.size, 1, none⟩ = some (.slice (some ⟨g, o, none⟩) m capt) ∧ w'.cell? ⟨g, o + (k - 1) * 2, none⟩ = some (.string (B z)))) (by kernel_rfl) ?_ (fun hH => ?_)
   ·exact ⟨HB.out.2.c0, HB.out.2.c1, HP.out.1, HP.out.2⟩
   refine tk 0 hH ?_
   refine tk 1 hH ?_
   refine rY 2 fun K hK => ?_
   go_simp
   go_at_call 64
   refine (HRI.out _).mono ?_
   rintro e w1 ⟨rfl, f1⟩
   have b1 := HB.out.2.keep f1.fp id
   have HS1 := zI (yI b1.c0 (yI b1.c1 (yI (f1.fp.cell HP.out.1 id) (f1.fp.cell HP.out.2 id))))
   have F := zI (HB.out.1.then f1.fp)
   clear f1 b1
   go_wp2_with fail
   refine hK.out _ _ HS1.out (fun hH => ?_)
   clear hK K
   try simp only [zz]
   refine tk 3 hH ?_
   refine tk 4 hH ?_
   refine tk 5 hH ?_
   refine tk 6 hH ?_
   refine rY 7 fun K hK => ?_
   go_simp
   go_at_call 65
   refine (HWI.out _).mono ?_
   rintro e w2 ⟨rfl, rfl⟩
   go_wp2_with fail
   refine hK.out _ _ HS1.out (fun hH => ?_)
   clear hK K
   try simp only [zz]
   refine tk 8 hH ?_
   refine tk 9 hH ?_
   refine tk 10 hH ?_
   refine tk 11 hH ?_
   refine tk 12 hH ?_
   refine tk 13 hH ?_
   refine tk 14 hH ?_
   refine tk 15 hH ?_
   refine tk 16 hH ?_
   refine tk 17 hH ?_
   refine tk 18 hH ?_
   refine tk 19 hH ?_
   refine tk 20 hH ?_
   refine tk 21 hH ?_
   refine tk 22 hH ?_
   refine tk 23 hH ?_
   refine tk 24 hH ?_
   refine tk 25 hH ?_
   refine dn ?_
   go_wp2
   go_ret
   exact ⟨ret_bool HNO.out.symm, HW.out.then F.out⟩
  have hle' : (Op.bytesLess x.dir z || x.dir == z) = false := by simpa using hle
  have HNX := zI (HST.out.1 rfl (fun _ h => by rw [← HZ.out.1]; exact isUp hle'))
  clear hlt hk hk0 hz hz2 hle
  go_wp2_with fail
  refine wp_region_held_drew (S := (fun w' => w'.cell? ⟨wr2.heap.size, 0, none⟩ = some (.string (B x.dir)) ∧ w'.cell? ⟨wr2.heap.size, 1, none⟩ = some (.int .i64 x.next) ∧ w'.cell? ⟨w.heap.size, 1, none⟩ = some (.slice (some ⟨g, o, none⟩) m capt) ∧ w'.cell? ⟨g, o + (k - 1) * 2, none⟩ = some (.string (B z)))) (by kernel_rfl) ?_ (fun hH => ?_)
  ·exact ⟨HB.out.2.c0, HB.out.2.c1, HP.out.1, HP.out.2⟩
  refine tk 0 hH ?_
  refine tk 1 hH ?_
  refine rY 2 fun K hK => ?_
  go_simp
  go_at_call 64
  refine (HRI.out _).mono ?_
  rintro e w1 ⟨rfl, f1⟩
  have b1 := HB.out.2.keep f1.fp id
  have HS1 := zI (yI b1.c0 (yI b1.c1 (yI (f1.fp.cell HP.out.1 id) (f1.fp.cell HP.out.2 id))))
  have F := zI (HB.out.1.then f1.fp)
  clear f1 b1
  go_wp2_with fail
  refine hK.out _ _ HS1.out (fun hH => ?_)
  clear hK K
  try simp only [zz]
  refine tk 3 hH ?_
  refine tk 4 hH ?_
  refine tk 5 hH ?_
  refine tk 6 hH ?_
  refine rY 7 fun K hK => ?_
  go_simp
  go_at_call 65
  refine (HWI.out _).mono ?_
  rintro e w2 ⟨rfl, rfl⟩
  go_wp2_with fail
  refine hK.out _ _ HS1.out (fun hH => ?_)
  clear hK K
  try simp only [zz]
  refine tk 8 hH ?_
  refine tk 9 hH ?_
  refine tk 10 hH ?_
  refine tk 11 hH ?_
  refine tk 12 hH ?_
  refine tk 13 hH ?_
  refine tk 14 hH ?_
  refine tk 15 hH ?_
  refine tk 16 hH ?_
  refine tk 17 hH ?_
  refine tk 18 hH ?_
  refine tk 19 hH ?_
  refine tk 20 hH ?_
  refine tk 21 hH ?_
  refine tk 22 hH ?_
  refine tk 23 hH ?_
  refine tk 24 hH ?_
  refine tk 25 hH ?_
  refine dn ?_
  have hkn := HK.out
  go_wp2
  go_roundw
  case rel => exact ⟨k + 1, by have := HK.out; omega, by go_num, ⟨HR0.out.then F.out, HNX.out⟩⟩
  case measure => have := HK.out; simp [RowKit.intOf]; omega
 have hke : k = m := by omega
 subst hke
 have q3 : ((k : Int) < (k : Int)) = False := eq_false (by omega)
 have HOK := zI (show r = true by
  obtain ⟨a1, a2⟩ := chkT_all (fun j hj => hR.out.2 j hj (by rw [HT.out.1]; exact hj))
  rw [← HT.out.2.2.2]; exact rightS_true ⟨HN9.out.1, HN9.out.2, a1, a2⟩)
 have HFX := zI (HF1.out.then hR.out.1)
 clear hlt hk
 go_wp2
 go_ret
 exact ⟨ret_bool HOK.out.symm, HFX.out⟩
set_option maxHeartbeats 1000000 in
theorem lies1_c (n : Nd) (g : Nat) (p : Bs) (w : World) (hn : n.path.length ≤ 1000000) (hg : w.cell? ⟨g, 0, none⟩ = some (.string (B p))) :
  Calls Tryz.prog 169 #[ndV n, .pointer (some ⟨g, 0, none⟩)] w fun e w' => e = .returned (.bool (parent n.path == some p)) ∧ Fp Non w w' := by
 obtain ⟨np, d, v, t, o⟩ := n
 unfold ndV strV
 have hf : ∀ o, Fp Non w (w.alloc o) := fun o => (Fp.refl Non w).alloc o
 have hpar := fun w => Parent_g np w (sz_of hn (by omega))
 have HF := zI hf
 have HG := zI hg
 show Calls _ _ _ _ (fun e w' => e = .returned (.bool (parent np == some p)) ∧ _)
 cases hu : parent np with
 | none =>
  rw [hu] at hpar
  have HP := zI hpar
  clear hpar hu hf hg hn
  go_enter Tryz.func169, Tryz.ntmps169
  go_wp2_with fail
  refine (HP.out _).mono ?_
  rintro e w1 ⟨rfl, g1⟩
  have F := zI ((HF.out _).then g1.fp)
  clear g1
  go_wp2
  go_ret
  exact ⟨rfl, F.out⟩
 | some u => ?_
 rw [hu] at hpar
 have HP := zI hpar
 have hb : (some u == some p) = (u == p) := rfl
 rw [hb]
 clear hpar hu hf hg hn hb
 go_enter Tryz.func169, Tryz.ntmps169
 go_wp2_with fail
 refine (HP.out _).mono ?_
 rintro e w1 ⟨rfl, g1⟩
 have f1 := (HF.out _).then g1.fp
 have c1 := f1.cell HG.out id
 have F := zI f1
 clear g1 f1
 go_wp2
 all_goals (go_ret; exact ⟨rfl, F.out⟩)
theorem lies_pd (w : World) (g : Nat) (p : Bs) (hg : w.cell? ⟨g, 0, none⟩ = some (.string (B p))) (S : Nat → Prop) (hS : ¬ S g) :
  Pd S w (.func (.func 169) #[] #[.pointer (some ⟨g, 0, none⟩)]) (fun n => parent n.path == some p) :=
 ⟨_, _, _, rfl, enters_of Tryz.func169 (by kernel_rfl) rfl, fun n w1 hn hf => lies1_c n g p w1 hn (hf.cell hg hS)⟩
set_option maxHeartbeats 1000000 in
theorem liesIn_c (p : Bs) (w : World) :
  Calls Tryz.prog 132 #[.string (B p)] w fun e w' => e = .returned (.func (.func 169) #[] #[.pointer (some ⟨w.heap.size, 0, none⟩)]) ∧ w' = w.alloc (.cells #[.string (B p)] 9) := by
 go_enter Tryz.func132, Tryz.ntmps132
 go_wp2
 go_ret
 exact ⟨rfl, rfl⟩
theorem liesIn_pd (p : Bs) (w : World) (S : Nat → Prop) (hS : ∀ k, S k → k < w.heap.size) : Pd S (w.alloc (.cells #[.string (B p)] 9)) (.func (.func 169) #[] #[.pointer (some ⟨w.heap.size, 0, none⟩)]) (fun n => parent n.path == some p) :=
 lies_pd _ _ p (by rw [cell_of_row _ _ _ _ _ _ (heap_alloc_new w _)]; rfl) S (fun h => by have := hS _ h; omega)
set_option maxHeartbeats 1000000 in
theorem placeP1_c (n : Nd) (p : Bs) (w : World) :
  Calls Tryz.prog 151 #[ndV n, .string (B p)] w fun e w' => e = .returned (.int .i64 (cmpI n.path p)) ∧ Fp Non w w' := by
 obtain ⟨np, d, v, t, o⟩ := n
 unfold ndV strV
 have hf : ∀ o, Fp Non w (w.alloc o) := fun o => (Fp.refl Non w).alloc o
 have hc := fun w => Tryz.strings_Compare (B np) (B p) w
 have e : ∀ l : Bs, (B l).data.toList = l := fun l => by unfold B; rfl
 simp only [e, cmp_eq] at hc
 have HF := zI hf
 have HC := zI hc
 clear hf hc e
 go_enter Tryz.func151, Tryz.ntmps151
 go_wp2_with fail
 refine (HC.out _).mono ?_
 rintro e w1 ⟨rfl, rfl⟩
 go_wp2
 go_ret
 exact ⟨rfl, HF.out _⟩
set_option maxHeartbeats 2000000 in
theorem SearchP_c (v : Value) (l : List Nd) (p : Bs) (w : World) (hv : Ns w v l) (ha : Asc l) (hn : l.length ≤ 1000000) :
  Calls Tryz.prog 150 #[v, .string (B p), .func (.func 151) #[] #[]] w fun e w' => e = .returned (.tuple #[.int .i64 (place l p), .bool (find l p).isSome]) ∧ Fp Non w w' := by
 obtain ⟨ao, cap, rfl⟩ := hv.shape
 obtain ⟨n, hnn⟩ : ∃ n, n = l.length := ⟨_, rfl⟩
 have HX := zI (yI hnn (yI hv ha))
 have H0 : Hid (BsM l p w 0 n w) := ⟨Fp.refl _ _, fun x _ h => absurd h (Nat.not_lt_zero x), fun x h1 h2 => by omega, Nat.zero_le _, by omega⟩
 rw [← hnn]
 have hnb : n ≤ 1000000 := by omega
 clear hv ha hn hnn
 go_enter Tryz.func150, Tryz.ntmps150
 go_wp2_with fail
 go_loopw [9, 10] (fun i j wr => ∃ a b : Nat, a ≤ n ∧ b ≤ n ∧ i = .int .i64 a ∧ j = .int .i64 b ∧ Hid (BsM l p w a b wr)) (fun i j _ => (RowKit.intOf j).toNat - (RowKit.intOf i).toNat)
 case atStart => exact ⟨0, n, Nat.zero_le _, Nat.le_refl _, rfl, rfl, H0⟩
 obtain ⟨a, b, han, hbn, rfl, rfl, hR⟩ := hrel
 rename_i wr _
 by_cases hlt : a < b
 ·obtain ⟨h, hh⟩ : ∃ h, h = (a + b) / 2 := ⟨_, rfl⟩
  have hab : a ≤ h ∧ h < b := by omega
  have he : ((a : Int) + (b : Int)) / 2 = (h : Int) := by omega
  have hhl : h < l.length := by rw [← HX.out.1]; omega
  have q5 : (h < n) = True := eq_true (by omega)
  have q6 : ((h : Int) < (n : Int)) = True := eq_true (by omega)
  obtain ⟨g, o, cap', e, _, _, _, hcell⟩ := HX.out.2.1.at (by omega)
  injection e with e1 e2 e3
  subst e1 e3
  have hnd := (hcell h hhl).keep hR.out.fp id
  have hdn : lt l[h].path p = true → ∀ x (hx : x < l.length), x < h + 1 → lt l[x].path p = true := fun k x hx hxh => by
   rcases Nat.lt_or_eq_of_le (show x ≤ h by omega) with e | e
   ·exact lt_trans (HX.out.2.2 x h hx hhl e) k
   subst e; exact k
  have hup : lt l[h].path p = false → ∀ x (hx : x < l.length), h ≤ x → lt l[x].path p = false := fun k x hx hxh => by
   rcases Nat.lt_or_eq_of_le hxh with e | e
   ·cases c : lt l[x].path p with
    | false => rfl
    | true => rw [lt_trans (HX.out.2.2 h x hhl hx e) c] at k; cases k
   subst e; exact k
  have hpc := fun w => placeP1_c l[h] p w
  have HB := zI (yI hdn hup)
  have HA := zI (yI hab (yI han hbn))
  clear hcell hdn hup hh han hbn
  generalize l[h] = y at *
  have c0 := hnd.c0; have c1 := hnd.c1; have c2 := hnd.c2; have c3 := hnd.c3; have c4 := hnd.c4
  unfold strV at c0 c1
  unfold ndV strV at hpc
  have q3 : ((a : Int) < (b : Int)) = True := eq_true (by omega)
  have q4 : (a < b) = True := eq_true hlt
  have hcmp : ∃ z, cmpI y.path p = z := ⟨_, rfl⟩
  obtain ⟨z, hz⟩ := hcmp
  rw [hz] at hpc
  have HPC := zI hpc
  have hhb : h ≤ 1000000 := by have := HA.out; omega
  clear hnd hpc hhl hlt hab
  by_cases hlo : lt y.path p = true
  ·have z0 : (z < 0) = True := eq_true (by rw [← hz]; unfold cmpI; rw [if_pos hlo]; decide)
   have HLo := zI hlo
   clear hz hlo
   go_wp2_with fail
   refine (HPC.out _).mono ?_
   rintro e w2 ⟨rfl, hf2⟩
   have hM : Hid (BsM l p w (h + 1) b w2) := ⟨hR.out.fp.then hf2, HB.out.1 HLo.out, hR.out.hi, by have := HA.out.1; omega, hR.out.jn⟩
   clear hf2
   go_wp2
   go_roundw
   case rel => exact ⟨h + 1, b, by have := HA.out; omega, HA.out.2.2, by go_num, rfl, hM⟩
   case measure => have := HA.out; simp [RowKit.intOf]; omega
  have hlo' : lt y.path p = false := by simpa using hlo
  have z0 : (z < 0) = False := eq_false (by rw [← hz]; unfold cmpI; rw [if_neg hlo]; split <;> decide)
  have HLo := zI hlo'
  clear hz hlo hlo'
  go_wp2_with fail
  refine (HPC.out _).mono ?_
  rintro e w2 ⟨rfl, hf2⟩
  have hM : Hid (BsM l p w a h w2) := ⟨hR.out.fp.then hf2, hR.out.lo, HB.out.2 HLo.out, by have := HA.out.1; omega, by have := HA.out.1; have := hR.out.jn; omega⟩
  clear hf2
  go_wp2
  go_roundw
  case rel => exact ⟨a, h, HA.out.2.1, by have := HA.out; omega, rfl, rfl, hM⟩
  case measure => have := HA.out; simp [RowKit.intOf]; omega
 have hab : a = b := by have := hR.out.ij; omega
 subst hab
 have hpl : place l p = a := place_of hR.out.jn hR.out.lo hR.out.hi
 have q3 : ((a : Int) < (a : Int)) = False := eq_false (by omega)
 have hfp := find_place HX.out.2.2 p
 rw [hpl] at hfp
 have HP := zI hpl
 by_cases hal : a < n
 ·have hal' : a < l.length := by rw [← HX.out.1]; exact hal
  rw [dif_pos hal'] at hfp
  obtain ⟨g, o, cap', e, _, _, _, hcell⟩ := HX.out.2.1.at (by omega)
  injection e with e1 e2 e3
  subst e1 e3
  have hnd := (hcell a hal').keep hR.out.fp id
  have hpc := fun w => placeP1_c l[a] p w
  have hnl := hR.out.hi a hal' (Nat.le_refl _)
  clear hcell
  generalize l[a] = y at *
  have c0 := hnd.c0; have c1 := hnd.c1; have c2 := hnd.c2; have c3 := hnd.c3; have c4 := hnd.c4
  unfold strV at c0 c1
  unfold ndV strV at hpc
  have q5 : ((a : Int) < (n : Int)) = True := eq_true (by omega)
  have q6 : (a < n) = True := eq_true hal
  obtain ⟨z, hz⟩ : ∃ z, cmpI y.path p = z := ⟨_, rfl⟩
  have hze : (z == 0) = (find l p).isSome := by
   rw [hfp, ← hz]; unfold cmpI
   rw [if_neg (by rw [hnl]; exact Bool.false_ne_true)]
   by_cases e : y.path = p
   ·rw [if_pos e, if_pos e]; rfl
   rw [if_neg e, if_neg e]; rfl
  rw [hz] at hpc
  have HPC := zI hpc
  have HZ := zI hze
  clear hnd hpc hz hze hfp hnl hal hal' hpl han hbn
  go_wp2_with fail
  refine (HPC.out _).mono ?_
  rintro e w2 ⟨rfl, hf2⟩
  have HF := zI (hR.out.fp.then hf2)
  clear hf2
  go_wp2
  go_ret2
  exact ⟨by rw [HP.out, ← HZ.out]; rfl, HF.out⟩
 have q5 : ((a : Int) < (n : Int)) = False := eq_false (by omega)
 have q6 : (a < n) = False := eq_false hal
 rw [dif_neg (by rw [← HX.out.1]; exact hal)] at hfp
 have HFN := zI hfp
 clear hfp hpl hal hlt han hbn
 go_wp2
 go_ret2
 exact ⟨by rw [HP.out, HFN.out]; rfl, hR.out.fp⟩
set_option maxHeartbeats 1000000 in
theorem placeP_c (v : Value) (l : List Nd) (p : Bs) (w : World) (hv : Ns w v l) (ha : Asc l) (hn : l.length ≤ 1000000) :
  Calls Tryz.prog 107 #[v, .string (B p)] w fun e w' => e = .returned (.tuple #[.int .i64 (place l p), .bool (find l p).isSome]) ∧ Fp Non w w' := by
 have hs := SearchP_c v l p w hv ha hn
 obtain ⟨ao, cap, rfl⟩ := hv.shape
 generalize l.length = n at *
 have HS := zI hs
 clear hs hv hn ha
 go_enter Tryz.func107, Tryz.ntmps107
 go_wp2_with fail
 refine HS.out.mono ?_
 rintro e w1 ⟨rfl, hf⟩
 have HF := zI hf
 clear hf
 go_wp2
 go_ret2
 exact ⟨rfl, HF.out⟩
abbrev TS : TypeId := 87
structure Sw (lo b : Nat) (vn vt : Value) (s : St) (w : World) : Prop where
 blk : w.heap[b]? = some (.cells #[vn, vt] TS (0, 0))
 low : lo ≤ b
 own : Ow lo w vn s.nodes
 ownT : OwT lo w vt s.turns
 neN : vn.ownBlock ≠ some b
 neT : vt.ownBlock ≠ some b
 apart : ∀ k, vn.ownBlock = some k → vt.ownBlock ≠ some k
section
variable {lo b : Nat} {vn vt : Value} {s : St} {w w' : World}
theorem Sw.non (h : Sw lo b vn vt s w) (f : Fp Non w w') : Sw lo b vn vt s w' := ⟨f.heap h.blk id, h.low, h.own.non f, h.ownT.non f, h.neN, h.neT, h.apart⟩
theorem Sw.c0 (h : Sw lo b vn vt s w) : w.cell? ⟨b, 0, none⟩ = some vn := by rw [cell_of_row _ _ _ _ _ _ h.blk]; rfl
theorem Sw.c1 (h : Sw lo b vn vt s w) : w.cell? ⟨b, 1, none⟩ = some vt := by rw [cell_of_row _ _ _ _ _ _ h.blk]; rfl
theorem Sw.fz (h : Sw lo b vn vt s w) (j : Nat) : w.frozen? ⟨b, j, none⟩ = false := by simp [World.frozen?, h.blk]
end
set_option maxHeartbeats 1000000 in
theorem turnPlace_c {lo b : Nat} {vn vt : Value} {s : St} {w : World} (h : Sw lo b vn vt s w) (p : Bs) (ha : AscT s.turns) (hn : s.turns.length ≤ 1000000) :
  Calls Tryz.prog 165 #[.pointer (some ⟨b, 0, none⟩), .string (B p)] w fun e w' => e = .returned (.tuple #[.int .i64 (placeT s.turns p), .bool (findT s.turns p).isSome]) ∧ Fp Non w w' := by
 have hs := SearchT_c vt s.turns p w h.ownT.ns ha hn
 have c1 := h.c1
 obtain ⟨ao, cap, rfl⟩ := h.ownT.ns.shape
 generalize s.turns.length = n at *
 have HS := zI hs
 clear hs h hn ha
 go_enter Tryz.func165, Tryz.ntmps165
 go_wp2_with fail
 refine HS.out.mono ?_
 rintro e w1 ⟨rfl, hf⟩
 have HF := zI hf
 clear hf
 go_wp2
 go_ret2
 exact ⟨rfl, HF.out⟩
set_option maxHeartbeats 1000000 in
theorem turn_c {lo b : Nat} {vn vt : Value} {s : St} {w : World} (h : Sw lo b vn vt s w) (p : Bs) (ha : AscT s.turns) (hn : s.turns.length ≤ 1000000) :
  Calls Tryz.prog 127 #[.pointer (some ⟨b, 0, none⟩), .string (B p)] w fun e w' => e = .returned (.int .i64 (turnOf s.turns p)) ∧ Fp Non w w' := by
 have hs := turnPlace_c h p ha hn
 have c1 := h.c1
 have hfp := findT_place ha p
 obtain ⟨k, hk⟩ : ∃ k, k = placeT s.turns p := ⟨_, rfl⟩
 rw [← hk] at hs
 cases hf : findT s.turns p with
 | none =>
  have e : turnOf s.turns p = 0 := by unfold turnOf; rw [hf]; rfl
  rw [e]
  rw [hf] at hs
  simp only [Option.isSome_none] at hs
  have HS := zI hs
  obtain ⟨ao, cap, rfl⟩ := h.ownT.ns.shape
  clear hs h hn ha hfp hk hf e
  go_enter Tryz.func127, Tryz.ntmps127
  go_wp2_with fail
  refine HS.out.mono ?_
  rintro e w1 ⟨rfl, hf⟩
  have HF := zI hf
  clear hf
  go_wp2
  go_ret
  exact ⟨rfl, HF.out⟩
 | some t => ?_
 have e : turnOf s.turns p = t.next := by unfold turnOf; rw [hf]; rfl
 rw [e]
 rw [hf] at hs hfp
 simp only [Option.isSome_some] at hs
 have hkl : k < s.turns.length := by
  apply Decidable.byContradiction; intro c
  rw [dif_neg (by rw [← hk]; exact c)] at hfp; cases hfp
 have ht : s.turns[k] = t := by
  subst hk
  rw [dif_pos hkl] at hfp
  split at hfp
  ·exact (Option.some.inj hfp).symm
  cases hfp
 have HS := zI hs
 obtain ⟨g, o, cap, rfl, _, _, _, hcell⟩ := h.ownT.ns.at (by omega)
 have hnd := hcell k hkl
 rw [ht] at hnd
 obtain ⟨n, hnn⟩ : ∃ n, n = s.turns.length := ⟨_, rfl⟩
 rw [← hnn] at c1 hn
 have q3 : ((k : Int) < (n : Int)) = True := eq_true (by omega)
 have q4 : (k < n) = True := eq_true (by omega)
 have HC := zI (yI c1 hnd)
 clear hs h ha hfp hk hf e hcell hkl ht hnd hnn c1
 go_enter Tryz.func127, Tryz.ntmps127
 go_wp2_with fail
 refine HS.out.mono ?_
 rintro e w1 ⟨rfl, hf⟩
 have c1 := hf.cell HC.out.1 id
 have hnd := HC.out.2.keep hf id
 have d0 := hnd.c0; have d1 := hnd.c1
 have HF := zI hf
 clear hf hnd
 go_wp2
 go_ret
 exact ⟨rfl, HF.out⟩
end Go.Proofs.YtphoglepiegeiaaGreatDoor
namespace Go.Proofs.YtphoglepiegeiaaGreatDoor
set_option maxRecDepth 20000
open Go.RowKit Pm
set_option maxHeartbeats 2000000 in
theorem node_none {lo b : Nat} {vn vt : Value} {s : St} {w : World} (h : Sw lo b vn vt s w) (x : Pt) (ha : Asc s.nodes) (hn : s.nodes.length ≤ 1000000) (hf : find s.nodes x.path = none) :
  Calls Tryz.prog 123 #[.pointer (some ⟨b, 0, none⟩), ptV x] w fun e w' => e = .returned (.tuple #[.pointer none, .int .i64 62]) ∧ Fp Non w w' := by
 obtain ⟨k, d, p, da, v, o, t⟩ := x
 simp only at hf
 obtain ⟨q, hq⟩ : ∃ q, q = place s.nodes p := ⟨_, rfl⟩
 have hs := fun w' (f : Fp Non w w') => placeP_c vn s.nodes p w' (h.own.ns.non f) ha hn
 rw [hf, ← hq] at hs
 simp only [Option.isSome_none] at hs
 have HS := zI hs
 have HA := zI (fun o => fp_alloc w o)
 have hc0 := h.c0
 obtain ⟨ao, cap, rfl⟩ := h.own.ns.shape
 have HD := zI (((Fp.refl Non w).alloc (Obj.cells #[.int .i64 k, .string (B d), .string (B p), .string (B da), .int .i64 v, .int .i64 o, .bool t] TP)).drew)
 have HS0 := zI (yI (HD.out.cell hc0 id) ((Fp.refl Non _).drew.cell (boxP7 (heap_alloc_new w (Obj.cells #[.int .i64 k, .string (B d), .string (B p), .string (B da), .int .i64 v, .int .i64 o, .bool t] TP))).2.2.1 id))
 unfold ptV strV
 generalize s.nodes.length = n at *
 clear hs h hn ha hf hq hc0
 go_enter Tryz.func123, Tryz.ntmps123
 go_wp2_with fail
 refine wp_region_held_drew (S := (fun w' => w'.cell? ⟨b, 0, none⟩ = some (.slice ao n cap) ∧ w'.cell? ⟨w.heap.size, 2, none⟩ = some (.string (B p)))) (by kernel_rfl) ?_ (fun hH => ?_)
 ·exact HS0.out
 refine tk 0 hH ?_
 refine tk 1 hH ?_
 refine tk 2 hH ?_
 refine tk 3 hH ?_
 refine tk 4 hH ?_
 refine tk 5 hH ?_
 refine rY 6 fun K hK => ?_
 go_simp
 go_at_call 107
 refine (HS.out _ HD.out).mono ?_
 rintro e w1 ⟨rfl, hf⟩
 have HS1 := zI (yI (hf.cell HS0.out.1 id) (hf.cell HS0.out.2 id))
 have HF := zI (HD.out.then hf)
 clear hf
 go_wp2_with fail
 refine hK.out _ _ HS1.out (fun hH => ?_)
 clear hK K
 try simp only [zz]
 refine tk 7 hH ?_
 refine tk 8 hH ?_
 refine tk 9 hH ?_
 refine tk 10 hH ?_
 refine tk 11 hH ?_
 refine dn ?_
 go_wp2
 go_ret2
 exact ⟨rfl, HF.out⟩
set_option maxHeartbeats 2000000 in
theorem node_some {lo b : Nat} {vn vt : Value} {s : St} {w : World} (h : Sw lo b vn vt s w) (x : Pt) (ha : Asc s.nodes) (hn : s.nodes.length ≤ 1000000) {y : Nd} (hf : find s.nodes x.path = some y) :
  Calls Tryz.prog 123 #[.pointer (some ⟨b, 0, none⟩), ptV x] w fun e w' => ∃ G, vn.ownBlock = some G ∧ NdAt w G (place s.nodes x.path * 5) y ∧ e = .returned (.tuple #[.pointer (some ⟨G, place s.nodes x.path * 5, none⟩), .int .i64 0]) ∧ Fp Non w w' := by
 obtain ⟨k, d, p, da, v, o, t⟩ := x
 simp only at hf ⊢
 have hfp := find_place ha p
 rw [hf] at hfp
 obtain ⟨q, hq⟩ : ∃ q, q = place s.nodes p := ⟨_, rfl⟩
 rw [← hq]
 have hql : q < s.nodes.length := by
  apply Decidable.byContradiction; intro c
  rw [dif_neg (by rw [← hq]; exact c)] at hfp; cases hfp
 have hy : s.nodes[q] = y := by
  subst hq
  rw [dif_pos hql] at hfp
  split at hfp
  ·exact (Option.some.inj hfp).symm
  cases hfp
 have hs := fun w' (f : Fp Non w w') => placeP_c vn s.nodes p w' (h.own.ns.non f) ha hn
 rw [hf, ← hq] at hs
 simp only [Option.isSome_some] at hs
 have HS := zI hs
 have HA := zI (fun o => fp_alloc w o)
 have hc := h.c0
 rcases h.own.ways with ⟨_, e⟩ | ⟨G, cap, rfl, h1, _⟩
 ·rw [e] at hql; simp at hql
 have hnd := h1.nd q hql
 rw [hy, Nat.zero_add] at hnd
 obtain ⟨n, hnn⟩ : ∃ n, n = s.nodes.length := ⟨_, rfl⟩
 rw [← hnn] at hc hn hql HS ⊢
 have q3 : ((q : Int) < (n : Int)) = True := eq_true (by omega)
 have q4 : (q < n) = True := eq_true (by omega)
 have HC := zI (yI hc hnd)
 have HD := zI (((Fp.refl Non w).alloc (Obj.cells #[.int .i64 k, .string (B d), .string (B p), .string (B da), .int .i64 v, .int .i64 o, .bool t] TP)).drew)
 have HS0 := zI (yI (HD.out.cell hc id) ((Fp.refl Non _).drew.cell (boxP7 (heap_alloc_new w (Obj.cells #[.int .i64 k, .string (B d), .string (B p), .string (B da), .int .i64 v, .int .i64 o, .bool t] TP))).2.2.1 id))
 unfold ptV strV
 clear hs h ha hf hfp hq hql hy h1 hnd hnn hc
 go_enter Tryz.func123, Tryz.ntmps123
 go_wp2_with fail
 refine wp_region_held_drew (S := (fun w' => w'.cell? ⟨b, 0, none⟩ = some (.slice (some ⟨G, 0, none⟩) n cap) ∧ w'.cell? ⟨w.heap.size, 2, none⟩ = some (.string (B p)))) (by kernel_rfl) ?_ (fun hH => ?_)
 ·exact HS0.out
 refine tk 0 hH ?_
 refine tk 1 hH ?_
 refine tk 2 hH ?_
 refine tk 3 hH ?_
 refine tk 4 hH ?_
 refine tk 5 hH ?_
 refine rY 6 fun K hK => ?_
 go_simp
 go_at_call 107
 refine (HS.out _ HD.out).mono ?_
 rintro e w1 ⟨rfl, hf⟩
 have HS1 := zI (yI (hf.cell HS0.out.1 id) (hf.cell HS0.out.2 id))
 have HF := zI (HD.out.then hf)
 clear hf
 go_wp2_with fail
 refine hK.out _ _ HS1.out (fun hH => ?_)
 clear hK K
 try simp only [zz]
 refine tk 7 hH ?_
 refine tk 8 hH ?_
 refine tk 9 hH ?_
 refine tk 10 hH ?_
 refine tk 11 hH ?_
 refine dn ?_
 have c0 := HS1.out.1
 go_wp2
 go_ret2
 exact ⟨G, rfl, HC.out.2, rfl, HF.out⟩
end Go.Proofs.YtphoglepiegeiaaGreatDoor
