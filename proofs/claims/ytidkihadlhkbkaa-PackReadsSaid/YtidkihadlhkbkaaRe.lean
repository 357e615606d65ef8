/- (*pack.Reader).next: a walk for each way through it. -/
import Derived.Test.YtidkihadlhkbkaaRd
namespace Go.Proofs.Ytidkihadlhkbkaa
open Go.RowKit Pm

set_option maxHeartbeats 1000000 in
theorem next_ok (lo b : Nat) (l : Bs) (most : Int) (m v : Nat) (w : World) (h : Rr lo b (l, 0) w) (hl : l.length ≤ 1000000) (hl0 : 0 < l.length) (hc : (l[0]'hl0).toNat ≠ 128) (hk : lead 7 l + 1 = m) (hk7 : m ≤ 7) (hkl : m ≤ l.length) (hv : val (l.take m) = v) (hvM : v ≤ M) (hvm : (v : Int) ≤ most) :
    Calls Try.prog 34 #[.pointer (some ⟨b, 0, none⟩), .int .i64 most, .bool false] w fun e w' => e = .returned (.tuple #[.int .i64 v, .string (B [])]) ∧ RrStep lo b (l.drop m, 0) w w' := by
  obtain ⟨f0, f1⟩ := h.free
  have c0 := h.cell0
  have c1 := h.cell1
  have hne : ¬ l = [] := fun h => by rw [h] at hl0; simp at hl0
  have hc' : (((l[0]'hl0).toNat : Int) == 128) = false := beq_eq_false_iff_ne.2 (by omega)
  have hk7' : (m : Int) ≤ 7 := by omega
  have hkl' : (m : Int) ≤ l.length := by omega
  unfold M at hvM
  have hvM' : (v : Int) ≤ 281474976710656 := by omega
  clear hvM
  have hcv := fun w => (value_c (l.take m) w (by rw [List.length_take]; omega)).mono (fun e w' h => (⟨h.1, h.2.symm⟩ : e = .returned (.int .i64 (val (l.take m))) ∧ w' = w))
  rw [hv] at hcv
  have HCV := Lib.hid hcv; clear hcv hv
  have HK := Lib.hid hk; clear hk
  have hdl : (l.drop m).length ≤ 1000000 := by rw [List.length_drop]; omega
  have hte : (l.drop m).take (l.length - m) = l.drop m := List.take_of_length_le (by rw [List.length_drop]; omega)
  generalize hd : l.drop m = d at *
  have HR := Lib.hid h; clear h
  go_enter Try.func34, Try.ntmps34
  go_wp2_with fail
  refine wp_scope_jumps 0 (fun _ _ => False) (fun _ _ => 0) rfl ?_ (fun _ _ h => h.elim)
  go_wp2_with fail
  go_quiet (fail)
  go_wp2_with fail
  refine (numLen_c l _ (by omega)).mono ?_
  rintro e w1 ⟨rfl, rfl⟩
  rw [HK.out]
  go_wp2_with fail
  go_quiet (first | (go_at_call 37; refine (HCV.out _).mono ?_; rintro e w' ⟨rfl, rfl⟩; exact ⟨rfl, _, rfl⟩))
  go_wp2_with fail
  simp only [Exit.jump]
  go_ret2
  exact ⟨rfl, RrStep.put0 (RrStep.drewN (RrStep.refl HR.out) _) _⟩

set_option maxHeartbeats 1000000 in
theorem next_text (lo b : Nat) (l : Bs) (most : Int) (m v : Nat) (w : World) (h : Rr lo b (l, 0) w) (hl : l.length ≤ 1000000) (hl0 : 0 < l.length) (hc : (l[0]'hl0).toNat ≠ 128) (hk : lead 7 l + 1 = m) (hk7 : m ≤ 7) (hkl : m ≤ l.length) (hv : val (l.take m) = v) (hvM : v ≤ M) (hvm : (v : Int) ≤ most) (hvl : v ≤ (l.drop m).length) :
    Calls Try.prog 34 #[.pointer (some ⟨b, 0, none⟩), .int .i64 most, .bool true] w fun e w' => e = .returned (.tuple #[.int .i64 v, .string (B ((l.drop m).take v))]) ∧ RrStep lo b ((l.drop m).drop v, 0) w w' := by
  obtain ⟨f0, f1⟩ := h.free
  have c0 := h.cell0
  have c1 := h.cell1
  have hne : ¬ l = [] := fun h => by rw [h] at hl0; simp at hl0
  have hc' : (((l[0]'hl0).toNat : Int) == 128) = false := beq_eq_false_iff_ne.2 (by omega)
  have hk7' : (m : Int) ≤ 7 := by omega
  have hkl' : (m : Int) ≤ l.length := by omega
  unfold M at hvM
  have hvM' : (v : Int) ≤ 281474976710656 := by omega
  clear hvM
  have hcv := fun w => (value_c (l.take m) w (by rw [List.length_take]; omega)).mono (fun e w' h => (⟨h.1, h.2.symm⟩ : e = .returned (.int .i64 (val (l.take m))) ∧ w' = w))
  rw [hv] at hcv
  have HCV := Lib.hid hcv; clear hcv hv
  have HK := Lib.hid hk; clear hk
  have hdl : (l.drop m).length ≤ 1000000 := by rw [List.length_drop]; omega
  have hte : (l.drop m).take (l.length - m) = l.drop m := List.take_of_length_le (by rw [List.length_drop]; omega)
  generalize hd : l.drop m = d at *
  have hvl' : (v : Int) ≤ d.length := by omega
  have hte2 : (d.drop v).take (d.length - v) = d.drop v := List.take_of_length_le (by rw [List.length_drop]; omega)
  have HR := Lib.hid h; clear h
  go_enter Try.func34, Try.ntmps34
  go_wp2_with fail
  refine wp_scope_jumps 0 (fun _ _ => False) (fun _ _ => 0) rfl ?_ (fun _ _ h => h.elim)
  go_wp2_with fail
  go_quiet (fail)
  go_wp2_with fail
  refine (numLen_c l _ (by omega)).mono ?_
  rintro e w1 ⟨rfl, rfl⟩
  rw [HK.out]
  go_wp2_with fail
  go_quiet (first | (go_at_call 37; refine (HCV.out _).mono ?_; rintro e w' ⟨rfl, rfl⟩; exact ⟨rfl, _, rfl⟩))
  go_wp2_with fail
  go_quiet (fail)
  go_wp2_with fail
  simp only [Exit.jump]
  go_ret2
  exact ⟨rfl, RrStep.put0 (RrStep.drewN (RrStep.refl HR.out) _) _⟩

end Go.Proofs.Ytidkihadlhkbkaa
