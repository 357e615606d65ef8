/- New readers and writers. -/
import Derived.Test.YtidkihadlhkbkaaQe
import Derived.Test.YtidkihadlhkbkaaRx
namespace Go.Proofs.Ytidkihadlhkbkaa
open Go.RowKit Pm

theorem Wr.new (T : TypeId) (lo : Nat) (w : World) (hlo : lo ≤ w.heap.size) : Wr T lo w.heap.size (.slice none 0 0) [] false (w.alloc (.cells #[.slice none 0 0, .bool false] T)) :=
  ⟨hlo, heap_alloc_new w _, World.ownsRow_nil _ _ _ _, fun h => by cases h⟩

theorem New_c (lo : Nat) (v : Value) (l : Bs) (w : World) (h : Sl w v l) (hlo : lo ≤ w.heap.size) :
    Calls Try.prog 20 #[v] w fun e w' => ∃ b, e = .returned (.pointer (some ⟨b, 0, none⟩)) ∧ w.heap.size ≤ b ∧ Rr lo b (l, 0) w' ∧ Fp Non w w' := by
  have hconv := conv_sl w v l h
  have hfin : Rr lo w.heap.size (l, 0) (w.alloc (.cells #[.string (B l), .int .i64 0] TI)) := ⟨hlo, heap_alloc_new w _⟩
  have hfp : Fp Non w (w.alloc (.cells #[.string (B l), .int .i64 0] TI)) := (Fp.refl Non w).alloc _
  have HF := Lib.hid (And.intro hfin hfp); clear hfin hfp
  obtain ⟨ao, cap, rfl, _, _, _⟩ := h.ex
  clear h
  go_enter Try.func20, Try.ntmps20
  go_wp2
  go_ret
  exact ⟨_, rfl, Nat.le_refl _, HF.out.1, HF.out.2⟩

theorem QNew_c (lo : Nat) (v : Value) (l : Bs) (w : World) (h : Sl w v l) (hlo : lo ≤ w.heap.size) (hl : l.length ≤ 50000000) :
    Calls Try.prog 21 #[v] w fun e w' => ∃ b v', e = .returned (.pointer (some ⟨b, 0, none⟩)) ∧ w.heap.size ≤ b ∧ (∀ k, v'.ownBlock = some k → w.heap.size ≤ k) ∧ Rq lo b v' (l, 0) w' ∧ Fp Non w w' := by
  have happ := app_sl (w.alloc (.cells #[] 5)) w.heap.size _ [] l 26 _ (World.ownsRow_made w #[] 0 (Nat.le_refl _) (Nat.zero_le _) rfl) (h.keep ((Fp.refl Non w).alloc _) (fun _ _ h => h)) (by simp; omega) (by simp)
  obtain ⟨ao, cap, rfl, h1, h2, h3⟩ := h.ex
  have HA := Lib.hid happ; clear happ h3 h
  go_enter Try.func21, Try.ntmps21
  go_wp2_with (at_builtin; go_must (refine wpList_app rfl _ _ _ _ rfl _ _ rfl rfl _ HA.out ?_))
  intro v' w2 hR
  have hown : w2.ownsRow w.heap.size 5 1 v' l.length (Lib.byteCells l) := by simpa using hR.own
  have hf : Fp Non w w2 := ((Fp.refl Non w).alloc _).grown hR.grown (fun k hk => by simp [Value.ownBlock] at hk; omega)
  have hfin : Rq lo w2.heap.size v' (l, 0) (w2.alloc (.cells #[v', .int .i64 0] TQ)) := by
    refine ⟨by have := hf.size; omega, heap_alloc_new w2 _, (Sl.of_owns hown).keep ((Fp.refl Non w2).alloc _) (fun _ _ h => h), fun k hk => ?_⟩
    have := hown.lt k hk; omega
  have HF := Lib.hid (And.intro hfin (And.intro (hf.alloc (.cells #[v', .int .i64 0] TQ)) (And.intro (fun k hk => (hown.lt k hk).1) hf.size)))
  obtain ⟨ao', m', cap', rfl⟩ := hR.shape
  clear hR hown hf hfin HA
  go_wp2
  go_ret
  exact ⟨_, _, rfl, HF.out.2.2.2, HF.out.2.2.1, HF.out.1, HF.out.2.1⟩

theorem enc300 : enc 300 = [130, 44] := by
  unfold enc; rw [show 300 / 128 = 2 from rfl, hi_pos 2 (by omega), show 2 / 128 = 0 from rfl, hi_zero]; rfl
theorem encAB : encT [97, 98] = [2, 97, 98] := by
  unfold encT enc; rw [show [(97 : UInt8), 98].length / 128 = 0 from rfl, hi_zero]; rfl

set_option maxHeartbeats 2000000 in
/-- The live question, whose answer is fixed. -/
theorem head_c (w : World) : Calls Try.prog 10 #[] w fun e w' => e = .returned (.bool true) ∧ Fp Non w w' := by
  have h0 := Wr.new TW w.heap.size w (Nat.le_refl _)
  have hf0 : Fp Non w (w.alloc (.cells #[.slice none 0 0, .bool false] TW)) := (Fp.refl Non w).alloc _
  have HF0 := Lib.hid hf0; clear hf0
  have H0 := Lib.hid h0; clear h0
  go_enter Try.func10, Try.ntmps10
  go_wp2_with fail
  refine (Num_c _ _ _ _ _ 300 _ H0.out (by simp)).mono ?_
  rintro e w1 ⟨rfl, v1, h1, hf1, hv1⟩
  have e1 : wNum [] false 300 = ([130, 44], false) := by unfold wNum M; rw [if_neg (by omega), ← enc300]; rfl
  rw [e1] at h1
  simp only at h1
  have hs1 := hf1.size
  have H1 := Lib.hid (And.intro h1 (And.intro hf1 hv1)); clear h1 hf1 hv1
  go_wp2_with fail
  refine (Text_c _ _ _ _ [97, 98] _ _ H1.out.1 (by simp)).mono ?_
  rintro e w2 ⟨rfl, v2, h2, hf2, hv2⟩
  rw [encAB, show [130, 44] ++ [2, 97, 98] = ([130, 44, 2, 97, 98] : Bs) from rfl] at h2
  have hs2 := hf2.size
  have H2 := Lib.hid (And.intro h2 (And.intro hf2 hv2)); clear h2 hf2 hv2
  go_wp2_with fail
  refine (Bytes_c _ _ _ _ _ _ H2.out.1 (by simp)).mono ?_
  rintro e w3 ⟨v3, rfl, hN3⟩
  simp only [Bool.false_eq_true, if_false] at hN3 ⊢
  have hs3 := hN3.fp.size
  obtain ⟨ao, cap, rfl⟩ := hN3.shape
  have H3 := Lib.hid hN3; clear hN3
  go_wp2_with fail
  refine (New_c w3.heap.size _ _ _ H3.out.sl (Nat.le_refl _)).mono ?_
  rintro e w4 ⟨b, rfl, hb, hr4, hf4⟩
  have hs4 := hf4.size
  have H4 := Lib.hid (And.intro hr4 hf4); clear hr4 hf4
  go_wp2_with fail
  refine (RNum_c _ _ _ 1000 _ H4.out.1 (by simp)).mono ?_
  rintro e w5 ⟨rfl, hr5⟩
  have e5 : rNum ([130, 44, 2, 97, 98], 0) 1000 = (300, ([2, 97, 98], 0)) := by
    have := rNum_enc 300 (by unfold M; omega) [2, 97, 98] 1000 (by omega)
    rwa [enc300] at this
  rw [e5] at hr5 ⊢
  have H5 := Lib.hid hr5; clear hr5
  go_wp2_with fail
  refine (RText_c _ _ _ _ H5.out.1 (by simp)).mono ?_
  rintro e w6 ⟨rfl, hr6⟩
  have e6 : rText ([2, 97, 98], 0) = ([97, 98], ([], 0)) := by
    have := rText_enc [97, 98] [] (by unfold M; simp)
    rwa [encAB] at this
  rw [e6] at hr6 ⊢
  have H6 := Lib.hid hr6; clear hr6
  go_wp2_with fail
  refine (REnd_c _ _ _ _ H6.out.1).mono ?_
  rintro e w6' ⟨rfl, rfl⟩
  go_wp2_with fail
  refine (RNum_c _ _ _ 1 _ H6.out.1 (by simp)).mono ?_
  rintro e w7 ⟨rfl, hr7⟩
  have e7 : rNum ([], 0) 1 = (0, ([], 21)) := rfl
  rw [e7] at hr7
  have H7 := Lib.hid hr7; clear hr7
  have hsl : Sl w7 (.slice ao 5 cap) [130, 44, 2, 97, 98] := by
    have k3 := H3.out.sl
    have hlt : ∀ k, (Value.slice ao 5 cap).ownBlock = some k → k < w3.heap.size := fun k hk => (H3.out.own.lt k hk).2
    have k4 := k3.keep H4.out.2 (fun _ _ h => h)
    have hf : Fp (fun k => k = b) w4 w7 := (H5.out.2.same H6.out.2).same H7.out.2
    exact k4.keep hf (fun k hk e => by have := hlt k hk; omega)
  obtain ⟨ao', cap', e, hlc, _, h3⟩ := hsl.ex
  injection e with ea _ ec
  subst ea ec
  rcases h3 with ⟨_, rfl⟩ | ⟨g, o, rfl, _, hc⟩
  · simp at hlc
  have c0 : w7.cell? ⟨g, o, none⟩ = some (.int .u8 130) := hc 0 (by simp)
  have c1 : w7.cell? ⟨g, o + 1, none⟩ = some (.int .u8 44) := hc 1 (by simp)
  have est : stEnd ([], 0) = true := rfl
  have est2 : stEnd ([], 21) = false := rfl
  have hne : (21 : Int) ≠ 0 := by omega
  clear hc hsl hlc hne
  go_wp2_with fail
  refine (RErr_c _ _ _ _ H7.out.1).mono ?_
  rintro e w8 ⟨rfl, rfl⟩
  go_wp2_with fail
  refine (REnd_c _ _ _ _ H7.out.1).mono ?_
  rintro e w8 ⟨rfl, rfl⟩
  go_wp2
  go_ret
  refine ⟨rfl, ?_⟩
  have f1 : Fp Non w w1 := HF0.out.trans H1.out.2.1 (fun k hk => .inr (H0.out.all k hk).1)
  have f2 : Fp Non w w2 := f1.trans H2.out.2.1 (fun k hk => .inr (H1.out.1.all k hk).1)
  have f4 : Fp Non w w4 := (f2.then H3.out.fp).then H4.out.2
  have hf : Fp (fun k => k = b) w4 w7 := (H5.out.2.same H6.out.2).same H7.out.2
  exact f4.trans hf (fun k hk => .inr (by have := f2.size; have := (f2.then H3.out.fp).size; omega))
end Go.Proofs.Ytidkihadlhkbkaa
