/- (*pack.Reader).next: a walk for each way through it. -/
import Derived.Test.YtidkihadlhkbkaaRd
namespace Go.Proofs.Ytidkihadlhkbkaa
open Go.RowKit Pm

set_option maxHeartbeats 1000000 in
theorem next_big (lo b : Nat) (l : Bs) (most : Int) (m v : Nat) (w : World) (h : Rr lo b (l, 0) w) (hl : l.length ≤ 1000000) (t : Bool) (hl0 : 0 < l.length) (hc : (l[0]'hl0).toNat ≠ 128) (hk : lead 7 l + 1 = m) (hk7 : m ≤ 7) (hkl : m ≤ l.length) (hv : val (l.take m) = v) (hvM : M < v) :
    Calls Try.prog 34 #[.pointer (some ⟨b, 0, none⟩), .int .i64 most, .bool t] w fun e w' => e = .returned (.tuple #[.int .i64 0, .string (B [])]) ∧ RrStep lo b ([], 3) w w' := by
  obtain ⟨f0, f1⟩ := h.free
  have c0 := h.cell0
  have c1 := h.cell1
  have hne : ¬ l = [] := fun h => by rw [h] at hl0; simp at hl0
  have hc' : (((l[0]'hl0).toNat : Int) == 128) = false := beq_eq_false_iff_ne.2 (by omega)
  have hk7' : (m : Int) ≤ 7 := by omega
  have hkl' : (m : Int) ≤ l.length := by omega
  unfold M at hvM
  have hvM' : (281474976710656 : Int) < v := by omega
  clear hvM
  have hcv := fun w => (value_c (l.take m) w (by rw [List.length_take]; omega)).mono (fun e w' h => (⟨h.1, h.2.symm⟩ : e = .returned (.int .i64 (val (l.take m))) ∧ w' = w))
  rw [hv] at hcv
  have HCV := Lib.hid hcv; clear hcv hv
  have HK := Lib.hid hk; clear hk
  have hdl : (l.drop m).length ≤ 1000000 := by rw [List.length_drop]; omega
  have hte : (l.drop m).take (l.length - m) = l.drop m := List.take_of_length_le (by rw [List.length_drop]; omega)
  generalize hd : l.drop m = d at *
  have HR := Lib.hid h; clear h
  go_enter Try.func34, Try.ntmps34
  go_wp2_with fail
  refine wp_scope_jumps 0 (fun a' w' => NextFrame b 3 a' ∧ ∃ n, w' = w.drewN n) (fun _ _ => 0) rfl ?_ ?_
  rotate_left
  · rintro a' w' ⟨⟨u1, u2, u3, u4, u5, u6, u7, u8, u10, u11, u12, u13, u14, u15, u16, u17, u18, u19, u20, u21, u22, u23, u24, u25, u26, u27, u28, u29, u30, u31, u32, u33, u34, u35, u36, u37, u38, u39, u40, u41, u42, u43, u44, u45, u46, u47, u48, u49, u50, u51, u52, u53, u54, u55, u56, u57, u58, u59, u60, u61, u62, u63, u64, u65, u66, u67, u68, u69, u70, u71, u72, u73, u74, u75, rfl⟩, n, rfl⟩
    go_wp2
    simp only [Exit.jump]
    go_ret2
    exact ⟨rfl, RrStep.put1 (RrStep.put0 (RrStep.drewN (RrStep.refl HR.out) _) []) 3⟩
  go_wp2_with fail
  go_quiet (fail)
  go_wp2_with fail
  refine (numLen_c l _ (by omega)).mono ?_
  rintro e w1 ⟨rfl, rfl⟩
  rw [HK.out]
  go_wp2_with fail
  go_quiet (first | (go_at_call 37; refine (HCV.out _).mono ?_; rintro e w' ⟨rfl, rfl⟩; exact ⟨rfl, _, rfl⟩))
  go_wp2_with fail
  go_step3
  exact ⟨rfl, ⟨_, _, _, _, _, _, _, _, _, _, _, _, _, _, _, _, _, _, _, _, _, _, _, _, _, _, _, _, _, _, _, _, _, _, _, _, _, _, _, _, _, _, _, _, _, _, _, _, _, _, _, _, _, _, _, _, _, _, _, _, _, _, _, _, _, _, _, _, _, _, _, _, _, _, rfl⟩, _, rfl⟩

set_option maxHeartbeats 1000000 in
theorem next_most (lo b : Nat) (l : Bs) (most : Int) (m v : Nat) (w : World) (h : Rr lo b (l, 0) w) (hl : l.length ≤ 1000000) (t : Bool) (hl0 : 0 < l.length) (hc : (l[0]'hl0).toNat ≠ 128) (hk : lead 7 l + 1 = m) (hk7 : m ≤ 7) (hkl : m ≤ l.length) (hv : val (l.take m) = v) (hvM : v ≤ M) (hvm : most < (v : Int)) :
    Calls Try.prog 34 #[.pointer (some ⟨b, 0, none⟩), .int .i64 most, .bool t] w fun e w' => e = .returned (.tuple #[.int .i64 0, .string (B [])]) ∧ RrStep lo b ([], 3) w w' := by
  obtain ⟨f0, f1⟩ := h.free
  have c0 := h.cell0
  have c1 := h.cell1
  have hne : ¬ l = [] := fun h => by rw [h] at hl0; simp at hl0
  have hc' : (((l[0]'hl0).toNat : Int) == 128) = false := beq_eq_false_iff_ne.2 (by omega)
  have hk7' : (m : Int) ≤ 7 := by omega
  have hkl' : (m : Int) ≤ l.length := by omega
  unfold M at hvM
  have hvM' : (v : Int) ≤ 281474976710656 := by omega
  clear hvM
  have hcv := fun w => (value_c (l.take m) w (by rw [List.length_take]; omega)).mono (fun e w' h => (⟨h.1, h.2.symm⟩ : e = .returned (.int .i64 (val (l.take m))) ∧ w' = w))
  rw [hv] at hcv
  have HCV := Lib.hid hcv; clear hcv hv
  have HK := Lib.hid hk; clear hk
  have hdl : (l.drop m).length ≤ 1000000 := by rw [List.length_drop]; omega
  have hte : (l.drop m).take (l.length - m) = l.drop m := List.take_of_length_le (by rw [List.length_drop]; omega)
  generalize hd : l.drop m = d at *
  have HR := Lib.hid h; clear h
  go_enter Try.func34, Try.ntmps34
  go_wp2_with fail
  refine wp_scope_jumps 0 (fun a' w' => NextFrame b 3 a' ∧ ∃ n, w' = w.drewN n) (fun _ _ => 0) rfl ?_ ?_
  rotate_left
  · rintro a' w' ⟨⟨u1, u2, u3, u4, u5, u6, u7, u8, u10, u11, u12, u13, u14, u15, u16, u17, u18, u19, u20, u21, u22, u23, u24, u25, u26, u27, u28, u29, u30, u31, u32, u33, u34, u35, u36, u37, u38, u39, u40, u41, u42, u43, u44, u45, u46, u47, u48, u49, u50, u51, u52, u53, u54, u55, u56, u57, u58, u59, u60, u61, u62, u63, u64, u65, u66, u67, u68, u69, u70, u71, u72, u73, u74, u75, rfl⟩, n, rfl⟩
    go_wp2
    simp only [Exit.jump]
    go_ret2
    exact ⟨rfl, RrStep.put1 (RrStep.put0 (RrStep.drewN (RrStep.refl HR.out) _) []) 3⟩
  go_wp2_with fail
  go_quiet (fail)
  go_wp2_with fail
  refine (numLen_c l _ (by omega)).mono ?_
  rintro e w1 ⟨rfl, rfl⟩
  rw [HK.out]
  go_wp2_with fail
  go_quiet (first | (go_at_call 37; refine (HCV.out _).mono ?_; rintro e w' ⟨rfl, rfl⟩; exact ⟨rfl, _, rfl⟩))
  go_wp2_with fail
  go_step3
  exact ⟨rfl, ⟨_, _, _, _, _, _, _, _, _, _, _, _, _, _, _, _, _, _, _, _, _, _, _, _, _, _, _, _, _, _, _, _, _, _, _, _, _, _, _, _, _, _, _, _, _, _, _, _, _, _, _, _, _, _, _, _, _, _, _, _, _, _, _, _, _, _, _, _, _, _, _, _, _, _, rfl⟩, _, rfl⟩

set_option maxHeartbeats 1000000 in
theorem next_short (lo b : Nat) (l : Bs) (most : Int) (m v : Nat) (w : World) (h : Rr lo b (l, 0) w) (hl : l.length ≤ 1000000) (hl0 : 0 < l.length) (hc : (l[0]'hl0).toNat ≠ 128) (hk : lead 7 l + 1 = m) (hk7 : m ≤ 7) (hkl : m ≤ l.length) (hv : val (l.take m) = v) (hvM : v ≤ M) (hvm : (v : Int) ≤ most) (hvl : (l.drop m).length < v) :
    Calls Try.prog 34 #[.pointer (some ⟨b, 0, none⟩), .int .i64 most, .bool true] w fun e w' => e = .returned (.tuple #[.int .i64 0, .string (B [])]) ∧ RrStep lo b ([], 21) w w' := by
  obtain ⟨f0, f1⟩ := h.free
  have c0 := h.cell0
  have c1 := h.cell1
  have hne : ¬ l = [] := fun h => by rw [h] at hl0; simp at hl0
  have hc' : (((l[0]'hl0).toNat : Int) == 128) = false := beq_eq_false_iff_ne.2 (by omega)
  have hk7' : (m : Int) ≤ 7 := by omega
  have hkl' : (m : Int) ≤ l.length := by omega
  unfold M at hvM
  have hvM' : (v : Int) ≤ 281474976710656 := by omega
  clear hvM
  have hcv := fun w => (value_c (l.take m) w (by rw [List.length_take]; omega)).mono (fun e w' h => (⟨h.1, h.2.symm⟩ : e = .returned (.int .i64 (val (l.take m))) ∧ w' = w))
  rw [hv] at hcv
  have HCV := Lib.hid hcv; clear hcv hv
  have HK := Lib.hid hk; clear hk
  have hdl : (l.drop m).length ≤ 1000000 := by rw [List.length_drop]; omega
  have hte : (l.drop m).take (l.length - m) = l.drop m := List.take_of_length_le (by rw [List.length_drop]; omega)
  generalize hd : l.drop m = d at *
  have hvl' : (d.length : Int) < v := by omega
  have HR := Lib.hid h; clear h
  go_enter Try.func34, Try.ntmps34
  go_wp2_with fail
  refine wp_scope_jumps 0 (fun a' w' => NextFrame b 21 a' ∧ ∃ n, w' = w.drewN n) (fun _ _ => 0) rfl ?_ ?_
  rotate_left
  · rintro a' w' ⟨⟨u1, u2, u3, u4, u5, u6, u7, u8, u10, u11, u12, u13, u14, u15, u16, u17, u18, u19, u20, u21, u22, u23, u24, u25, u26, u27, u28, u29, u30, u31, u32, u33, u34, u35, u36, u37, u38, u39, u40, u41, u42, u43, u44, u45, u46, u47, u48, u49, u50, u51, u52, u53, u54, u55, u56, u57, u58, u59, u60, u61, u62, u63, u64, u65, u66, u67, u68, u69, u70, u71, u72, u73, u74, u75, rfl⟩, n, rfl⟩
    go_wp2
    simp only [Exit.jump]
    go_ret2
    exact ⟨rfl, RrStep.put1 (RrStep.put0 (RrStep.drewN (RrStep.refl HR.out) _) []) 21⟩
  go_wp2_with fail
  go_quiet (fail)
  go_wp2_with fail
  refine (numLen_c l _ (by omega)).mono ?_
  rintro e w1 ⟨rfl, rfl⟩
  rw [HK.out]
  go_wp2_with fail
  go_quiet (first | (go_at_call 37; refine (HCV.out _).mono ?_; rintro e w' ⟨rfl, rfl⟩; exact ⟨rfl, _, rfl⟩))
  go_wp2_with fail
  go_step3
  exact ⟨rfl, ⟨_, _, _, _, _, _, _, _, _, _, _, _, _, _, _, _, _, _, _, _, _, _, _, _, _, _, _, _, _, _, _, _, _, _, _, _, _, _, _, _, _, _, _, _, _, _, _, _, _, _, _, _, _, _, _, _, _, _, _, _, _, _, _, _, _, _, _, _, _, _, _, _, _, _, rfl⟩, _, rfl⟩

end Go.Proofs.Ytidkihadlhkbkaa
