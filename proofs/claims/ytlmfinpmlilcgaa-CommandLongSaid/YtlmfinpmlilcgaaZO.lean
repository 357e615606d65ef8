/- Texts of this proof, merged. -/
import Derived.Test.YtlmfinpmlilcgaaZN
import Derived.Test.YtlmfinpmlilcgaaZF
import Derived.Test.YtlmfinpmlilcgaaZC
set_option linter.unusedVariables false
set_option linter.unusedSimpArgs false
/- (*pack.Reader).next: a walk for each way through it. -/
namespace Go.Proofs.Ytlmfinpmlilcgaa
set_option maxRecDepth 20000
open Go.RowKit Pm

set_option maxHeartbeats 1000000 in
theorem next_first (lo b : Nat) (l : Bs) (most : Int) (m : Nat) (w : World) (h : Rr lo b (l, 0) w) (hl : l.length ≤ 1000000) (t : Bool) (hl0 : 0 < l.length) (hc : (l[0]'hl0).toNat = 128) (hk : lead 7 l + 1 = m) :
    Calls Try.prog 62 #[.pointer (some ⟨b, 0, none⟩), .int .i64 most, .bool t] w fun e w' => e = .returned (.tuple #[.int .i64 0, .string (B [])]) ∧ RrStep lo b ([], 3) w w' := by
  obtain ⟨f0, f1⟩ := h.free
  have c0 := h.cell0
  have c1 := h.cell1
  have hne : ¬ l = [] := fun h => by rw [h] at hl0; simp at hl0
  have hc' : (((l[0]'hl0).toNat : Int) == 128) = true := beq_iff_eq.2 (by omega)
  have HK := Lib.hid hk; clear hk
  have HR := Lib.hid h; clear h
  go_enter Try.func62, Try.ntmps62
  go_wp2_with fail
  refine wp_scope_jumps 0 (fun a' w' => NextFrame b 3 a' ∧ ∃ n, w' = w.drewN n) (fun _ _ => 0) rfl ?_ ?_
  rotate_left
  · rintro a' w' ⟨⟨u1, u2, u3, u4, u5, u6, u7, u8, u10, u11, u12, u13, u14, u15, u16, u17, u18, u19, u20, u21, u22, u23, u24, u25, u26, u27, u28, u29, u30, u31, u32, u33, u34, u35, u36, u37, u38, u39, u40, u41, u42, u43, u44, u45, u46, u47, u48, u49, u50, u51, u52, u53, u54, u55, u56, u57, u58, u59, u60, u61, u62, u63, u64, u65, u66, u67, u68, u69, u70, u71, u72, u73, u74, u75, rfl⟩, n, rfl⟩
    go_wp2
    simp only [Exit.jump]
    go_ret2
    exact ⟨rfl, RrStep.put1 (RrStep.put0 (RrStep.drewN (RrStep.refl HR.out) _) []) 3⟩
  go_wp2_with fail
  go_quiet (fail)
  go_wp2_with fail
  refine (numLen_c l _ (by omega)).mono ?_
  rintro e w1 ⟨rfl, rfl⟩
  rw [HK.out]
  go_wp2_with fail
  go_step3
  exact ⟨rfl, ⟨_, _, _, _, _, _, _, _, _, _, _, _, _, _, _, _, _, _, _, _, _, _, _, _, _, _, _, _, _, _, _, _, _, _, _, _, _, _, _, _, _, _, _, _, _, _, _, _, _, _, _, _, _, _, _, _, _, _, _, _, _, _, _, _, _, _, _, _, _, _, _, _, _, _, rfl⟩, _, rfl⟩

set_option maxHeartbeats 1000000 in
theorem next_seven (lo b : Nat) (l : Bs) (most : Int) (m : Nat) (w : World) (h : Rr lo b (l, 0) w) (hl : l.length ≤ 1000000) (t : Bool) (hl0 : 0 < l.length) (hc : (l[0]'hl0).toNat ≠ 128) (hk : lead 7 l + 1 = m) (hk7 : 7 < m) :
    Calls Try.prog 62 #[.pointer (some ⟨b, 0, none⟩), .int .i64 most, .bool t] w fun e w' => e = .returned (.tuple #[.int .i64 0, .string (B [])]) ∧ RrStep lo b ([], 3) w w' := by
  obtain ⟨f0, f1⟩ := h.free
  have c0 := h.cell0
  have c1 := h.cell1
  have hne : ¬ l = [] := fun h => by rw [h] at hl0; simp at hl0
  have hc' : (((l[0]'hl0).toNat : Int) == 128) = false := beq_eq_false_iff_ne.2 (by omega)
  have hk7' : (7 : Int) < m := by omega
  have HK := Lib.hid hk; clear hk
  have HR := Lib.hid h; clear h
  go_enter Try.func62, Try.ntmps62
  go_wp2_with fail
  refine wp_scope_jumps 0 (fun a' w' => NextFrame b 3 a' ∧ ∃ n, w' = w.drewN n) (fun _ _ => 0) rfl ?_ ?_
  rotate_left
  · rintro a' w' ⟨⟨u1, u2, u3, u4, u5, u6, u7, u8, u10, u11, u12, u13, u14, u15, u16, u17, u18, u19, u20, u21, u22, u23, u24, u25, u26, u27, u28, u29, u30, u31, u32, u33, u34, u35, u36, u37, u38, u39, u40, u41, u42, u43, u44, u45, u46, u47, u48, u49, u50, u51, u52, u53, u54, u55, u56, u57, u58, u59, u60, u61, u62, u63, u64, u65, u66, u67, u68, u69, u70, u71, u72, u73, u74, u75, rfl⟩, n, rfl⟩
    go_wp2
    simp only [Exit.jump]
    go_ret2
    exact ⟨rfl, RrStep.put1 (RrStep.put0 (RrStep.drewN (RrStep.refl HR.out) _) []) 3⟩
  go_wp2_with fail
  go_quiet (fail)
  go_wp2_with fail
  refine (numLen_c l _ (by omega)).mono ?_
  rintro e w1 ⟨rfl, rfl⟩
  rw [HK.out]
  go_wp2_with fail
  go_step3
  exact ⟨rfl, ⟨_, _, _, _, _, _, _, _, _, _, _, _, _, _, _, _, _, _, _, _, _, _, _, _, _, _, _, _, _, _, _, _, _, _, _, _, _, _, _, _, _, _, _, _, _, _, _, _, _, _, _, _, _, _, _, _, _, _, _, _, _, _, _, _, _, _, _, _, _, _, _, _, _, _, rfl⟩, _, rfl⟩

set_option maxHeartbeats 1000000 in
theorem next_end (lo b : Nat) (l : Bs) (most : Int) (m : Nat) (w : World) (h : Rr lo b (l, 0) w) (hl : l.length ≤ 1000000) (t : Bool) (hl0 : 0 < l.length) (hc : (l[0]'hl0).toNat ≠ 128) (hk : lead 7 l + 1 = m) (hk7 : m ≤ 7) (hkl : l.length < m) :
    Calls Try.prog 62 #[.pointer (some ⟨b, 0, none⟩), .int .i64 most, .bool t] w fun e w' => e = .returned (.tuple #[.int .i64 0, .string (B [])]) ∧ RrStep lo b ([], 21) w w' := by
  obtain ⟨f0, f1⟩ := h.free
  have c0 := h.cell0
  have c1 := h.cell1
  have hne : ¬ l = [] := fun h => by rw [h] at hl0; simp at hl0
  have hc' : (((l[0]'hl0).toNat : Int) == 128) = false := beq_eq_false_iff_ne.2 (by omega)
  have hk7' : (m : Int) ≤ 7 := by omega
  have hkl' : (l.length : Int) < m := by omega
  have HK := Lib.hid hk; clear hk
  have HR := Lib.hid h; clear h
  go_enter Try.func62, Try.ntmps62
  go_wp2_with fail
  refine wp_scope_jumps 0 (fun a' w' => NextFrame b 21 a' ∧ ∃ n, w' = w.drewN n) (fun _ _ => 0) rfl ?_ ?_
  rotate_left
  · rintro a' w' ⟨⟨u1, u2, u3, u4, u5, u6, u7, u8, u10, u11, u12, u13, u14, u15, u16, u17, u18, u19, u20, u21, u22, u23, u24, u25, u26, u27, u28, u29, u30, u31, u32, u33, u34, u35, u36, u37, u38, u39, u40, u41, u42, u43, u44, u45, u46, u47, u48, u49, u50, u51, u52, u53, u54, u55, u56, u57, u58, u59, u60, u61, u62, u63, u64, u65, u66, u67, u68, u69, u70, u71, u72, u73, u74, u75, rfl⟩, n, rfl⟩
    go_wp2
    simp only [Exit.jump]
    go_ret2
    exact ⟨rfl, RrStep.put1 (RrStep.put0 (RrStep.drewN (RrStep.refl HR.out) _) []) 21⟩
  go_wp2_with fail
  go_quiet (fail)
  go_wp2_with fail
  refine (numLen_c l _ (by omega)).mono ?_
  rintro e w1 ⟨rfl, rfl⟩
  rw [HK.out]
  go_wp2_with fail
  go_step3
  exact ⟨rfl, ⟨_, _, _, _, _, _, _, _, _, _, _, _, _, _, _, _, _, _, _, _, _, _, _, _, _, _, _, _, _, _, _, _, _, _, _, _, _, _, _, _, _, _, _, _, _, _, _, _, _, _, _, _, _, _, _, _, _, _, _, _, _, _, _, _, _, _, _, _, _, _, _, _, _, _, rfl⟩, _, rfl⟩

end Go.Proofs.Ytlmfinpmlilcgaa

/- (*pack.Reader).next: a walk for each way through it. -/
namespace Go.Proofs.Ytlmfinpmlilcgaa
set_option maxRecDepth 20000
open Go.RowKit Pm

set_option maxHeartbeats 1000000 in
theorem next_big (lo b : Nat) (l : Bs) (most : Int) (m v : Nat) (w : World) (h : Rr lo b (l, 0) w) (hl : l.length ≤ 1000000) (t : Bool) (hl0 : 0 < l.length) (hc : (l[0]'hl0).toNat ≠ 128) (hk : lead 7 l + 1 = m) (hk7 : m ≤ 7) (hkl : m ≤ l.length) (hv : val (l.take m) = v) (hvM : M < v) :
    Calls Try.prog 62 #[.pointer (some ⟨b, 0, none⟩), .int .i64 most, .bool t] w fun e w' => e = .returned (.tuple #[.int .i64 0, .string (B [])]) ∧ RrStep lo b ([], 3) w w' := by
  obtain ⟨f0, f1⟩ := h.free
  have c0 := h.cell0
  have c1 := h.cell1
  have hne : ¬ l = [] := fun h => by rw [h] at hl0; simp at hl0
  have hc' : (((l[0]'hl0).toNat : Int) == 128) = false := beq_eq_false_iff_ne.2 (by omega)
  have hk7' : (m : Int) ≤ 7 := by omega
  have hkl' : (m : Int) ≤ l.length := by omega
  unfold M at hvM
  have hvM' : (281474976710656 : Int) < v := by omega
  clear hvM
  have hcv := fun w => (value_c (l.take m) w (by rw [List.length_take]; omega)).mono (fun e w' h => (⟨h.1, h.2.symm⟩ : e = .returned (.int .i64 (val (l.take m))) ∧ w' = w))
  rw [hv] at hcv
  have HCV := Lib.hid hcv; clear hcv hv
  have HK := Lib.hid hk; clear hk
  have hdl : (l.drop m).length ≤ 1000000 := by rw [List.length_drop]; omega
  have hte : (l.drop m).take (l.length - m) = l.drop m := List.take_of_length_le (by rw [List.length_drop]; omega)
  generalize hd : l.drop m = d at *
  have HR := Lib.hid h; clear h
  go_enter Try.func62, Try.ntmps62
  go_wp2_with fail
  refine wp_scope_jumps 0 (fun a' w' => NextFrame b 3 a' ∧ ∃ n, w' = w.drewN n) (fun _ _ => 0) rfl ?_ ?_
  rotate_left
  · rintro a' w' ⟨⟨u1, u2, u3, u4, u5, u6, u7, u8, u10, u11, u12, u13, u14, u15, u16, u17, u18, u19, u20, u21, u22, u23, u24, u25, u26, u27, u28, u29, u30, u31, u32, u33, u34, u35, u36, u37, u38, u39, u40, u41, u42, u43, u44, u45, u46, u47, u48, u49, u50, u51, u52, u53, u54, u55, u56, u57, u58, u59, u60, u61, u62, u63, u64, u65, u66, u67, u68, u69, u70, u71, u72, u73, u74, u75, rfl⟩, n, rfl⟩
    go_wp2
    simp only [Exit.jump]
    go_ret2
    exact ⟨rfl, RrStep.put1 (RrStep.put0 (RrStep.drewN (RrStep.refl HR.out) _) []) 3⟩
  go_wp2_with fail
  go_quiet (fail)
  go_wp2_with fail
  refine (numLen_c l _ (by omega)).mono ?_
  rintro e w1 ⟨rfl, rfl⟩
  rw [HK.out]
  go_wp2_with fail
  go_quiet (first | (go_at_call 66; refine (HCV.out _).mono ?_; rintro e w' ⟨rfl, rfl⟩; exact ⟨rfl, _, rfl⟩))
  go_wp2_with fail
  go_step3
  exact ⟨rfl, ⟨_, _, _, _, _, _, _, _, _, _, _, _, _, _, _, _, _, _, _, _, _, _, _, _, _, _, _, _, _, _, _, _, _, _, _, _, _, _, _, _, _, _, _, _, _, _, _, _, _, _, _, _, _, _, _, _, _, _, _, _, _, _, _, _, _, _, _, _, _, _, _, _, _, _, rfl⟩, _, rfl⟩

set_option maxHeartbeats 1000000 in
theorem next_most (lo b : Nat) (l : Bs) (most : Int) (m v : Nat) (w : World) (h : Rr lo b (l, 0) w) (hl : l.length ≤ 1000000) (t : Bool) (hl0 : 0 < l.length) (hc : (l[0]'hl0).toNat ≠ 128) (hk : lead 7 l + 1 = m) (hk7 : m ≤ 7) (hkl : m ≤ l.length) (hv : val (l.take m) = v) (hvM : v ≤ M) (hvm : most < (v : Int)) :
    Calls Try.prog 62 #[.pointer (some ⟨b, 0, none⟩), .int .i64 most, .bool t] w fun e w' => e = .returned (.tuple #[.int .i64 0, .string (B [])]) ∧ RrStep lo b ([], 3) w w' := by
  obtain ⟨f0, f1⟩ := h.free
  have c0 := h.cell0
  have c1 := h.cell1
  have hne : ¬ l = [] := fun h => by rw [h] at hl0; simp at hl0
  have hc' : (((l[0]'hl0).toNat : Int) == 128) = false := beq_eq_false_iff_ne.2 (by omega)
  have hk7' : (m : Int) ≤ 7 := by omega
  have hkl' : (m : Int) ≤ l.length := by omega
  unfold M at hvM
  have hvM' : (v : Int) ≤ 281474976710656 := by omega
  clear hvM
  have hcv := fun w => (value_c (l.take m) w (by rw [List.length_take]; omega)).mono (fun e w' h => (⟨h.1, h.2.symm⟩ : e = .returned (.int .i64 (val (l.take m))) ∧ w' = w))
  rw [hv] at hcv
  have HCV := Lib.hid hcv; clear hcv hv
  have HK := Lib.hid hk; clear hk
  have hdl : (l.drop m).length ≤ 1000000 := by rw [List.length_drop]; omega
  have hte : (l.drop m).take (l.length - m) = l.drop m := List.take_of_length_le (by rw [List.length_drop]; omega)
  generalize hd : l.drop m = d at *
  have HR := Lib.hid h; clear h
  go_enter Try.func62, Try.ntmps62
  go_wp2_with fail
  refine wp_scope_jumps 0 (fun a' w' => NextFrame b 3 a' ∧ ∃ n, w' = w.drewN n) (fun _ _ => 0) rfl ?_ ?_
  rotate_left
  · rintro a' w' ⟨⟨u1, u2, u3, u4, u5, u6, u7, u8, u10, u11, u12, u13, u14, u15, u16, u17, u18, u19, u20, u21, u22, u23, u24, u25, u26, u27, u28, u29, u30, u31, u32, u33, u34, u35, u36, u37, u38, u39, u40, u41, u42, u43, u44, u45, u46, u47, u48, u49, u50, u51, u52, u53, u54, u55, u56, u57, u58, u59, u60, u61, u62, u63, u64, u65, u66, u67, u68, u69, u70, u71, u72, u73, u74, u75, rfl⟩, n, rfl⟩
    go_wp2
    simp only [Exit.jump]
    go_ret2
    exact ⟨rfl, RrStep.put1 (RrStep.put0 (RrStep.drewN (RrStep.refl HR.out) _) []) 3⟩
  go_wp2_with fail
  go_quiet (fail)
  go_wp2_with fail
  refine (numLen_c l _ (by omega)).mono ?_
  rintro e w1 ⟨rfl, rfl⟩
  rw [HK.out]
  go_wp2_with fail
  go_quiet (first | (go_at_call 66; refine (HCV.out _).mono ?_; rintro e w' ⟨rfl, rfl⟩; exact ⟨rfl, _, rfl⟩))
  go_wp2_with fail
  go_step3
  exact ⟨rfl, ⟨_, _, _, _, _, _, _, _, _, _, _, _, _, _, _, _, _, _, _, _, _, _, _, _, _, _, _, _, _, _, _, _, _, _, _, _, _, _, _, _, _, _, _, _, _, _, _, _, _, _, _, _, _, _, _, _, _, _, _, _, _, _, _, _, _, _, _, _, _, _, _, _, _, _, rfl⟩, _, rfl⟩

set_option maxHeartbeats 1000000 in
theorem next_short (lo b : Nat) (l : Bs) (most : Int) (m v : Nat) (w : World) (h : Rr lo b (l, 0) w) (hl : l.length ≤ 1000000) (hl0 : 0 < l.length) (hc : (l[0]'hl0).toNat ≠ 128) (hk : lead 7 l + 1 = m) (hk7 : m ≤ 7) (hkl : m ≤ l.length) (hv : val (l.take m) = v) (hvM : v ≤ M) (hvm : (v : Int) ≤ most) (hvl : (l.drop m).length < v) :
    Calls Try.prog 62 #[.pointer (some ⟨b, 0, none⟩), .int .i64 most, .bool true] w fun e w' => e = .returned (.tuple #[.int .i64 0, .string (B [])]) ∧ RrStep lo b ([], 21) w w' := by
  obtain ⟨f0, f1⟩ := h.free
  have c0 := h.cell0
  have c1 := h.cell1
  have hne : ¬ l = [] := fun h => by rw [h] at hl0; simp at hl0
  have hc' : (((l[0]'hl0).toNat : Int) == 128) = false := beq_eq_false_iff_ne.2 (by omega)
  have hk7' : (m : Int) ≤ 7 := by omega
  have hkl' : (m : Int) ≤ l.length := by omega
  unfold M at hvM
  have hvM' : (v : Int) ≤ 281474976710656 := by omega
  clear hvM
  have hcv := fun w => (value_c (l.take m) w (by rw [List.length_take]; omega)).mono (fun e w' h => (⟨h.1, h.2.symm⟩ : e = .returned (.int .i64 (val (l.take m))) ∧ w' = w))
  rw [hv] at hcv
  have HCV := Lib.hid hcv; clear hcv hv
  have HK := Lib.hid hk; clear hk
  have hdl : (l.drop m).length ≤ 1000000 := by rw [List.length_drop]; omega
  have hte : (l.drop m).take (l.length - m) = l.drop m := List.take_of_length_le (by rw [List.length_drop]; omega)
  generalize hd : l.drop m = d at *
  have hvl' : (d.length : Int) < v := by omega
  have HR := Lib.hid h; clear h
  go_enter Try.func62, Try.ntmps62
  go_wp2_with fail
  refine wp_scope_jumps 0 (fun a' w' => NextFrame b 21 a' ∧ ∃ n, w' = w.drewN n) (fun _ _ => 0) rfl ?_ ?_
  rotate_left
  · rintro a' w' ⟨⟨u1, u2, u3, u4, u5, u6, u7, u8, u10, u11, u12, u13, u14, u15, u16, u17, u18, u19, u20, u21, u22, u23, u24, u25, u26, u27, u28, u29, u30, u31, u32, u33, u34, u35, u36, u37, u38, u39, u40, u41, u42, u43, u44, u45, u46, u47, u48, u49, u50, u51, u52, u53, u54, u55, u56, u57, u58, u59, u60, u61, u62, u63, u64, u65, u66, u67, u68, u69, u70, u71, u72, u73, u74, u75, rfl⟩, n, rfl⟩
    go_wp2
    simp only [Exit.jump]
    go_ret2
    exact ⟨rfl, RrStep.put1 (RrStep.put0 (RrStep.drewN (RrStep.refl HR.out) _) []) 21⟩
  go_wp2_with fail
  go_quiet (fail)
  go_wp2_with fail
  refine (numLen_c l _ (by omega)).mono ?_
  rintro e w1 ⟨rfl, rfl⟩
  rw [HK.out]
  go_wp2_with fail
  go_quiet (first | (go_at_call 66; refine (HCV.out _).mono ?_; rintro e w' ⟨rfl, rfl⟩; exact ⟨rfl, _, rfl⟩))
  go_wp2_with fail
  go_step3
  exact ⟨rfl, ⟨_, _, _, _, _, _, _, _, _, _, _, _, _, _, _, _, _, _, _, _, _, _, _, _, _, _, _, _, _, _, _, _, _, _, _, _, _, _, _, _, _, _, _, _, _, _, _, _, _, _, _, _, _, _, _, _, _, _, _, _, _, _, _, _, _, _, _, _, _, _, _, _, _, _, rfl⟩, _, rfl⟩

end Go.Proofs.Ytlmfinpmlilcgaa

/- The reader of package pack, on: contracts over plain lists. -/
namespace Go.Proofs.Ytlmfinpmlilcgaa
set_option maxRecDepth 20000
open Go.RowKit Pm

set_option maxHeartbeats 1000000 in
theorem next_err (lo b : Nat) (l : Bs) (er most : Int) (t : Bool) (w : World) (h : Rr lo b (l, er) w) (he : er ≠ 0) :
    Calls Try.prog 62 #[.pointer (some ⟨b, 0, none⟩), .int .i64 most, .bool t] w fun e w' => e = .returned (.tuple #[.int .i64 0, .string (B [])]) ∧ RrStep lo b (l, er) w w' := by
  have c0 := h.cell0
  have c1 := h.cell1
  have he' : (er == 0) = false := beq_eq_false_iff_ne.2 he
  have HR := Lib.hid h; clear h he
  go_enter Try.func62, Try.ntmps62
  go_wp2_with fail
  refine wp_scope_jumps 0 (fun _ _ => False) (fun _ _ => 0) rfl ?_ (fun _ _ h => h.elim)
  go_wp2_with fail
  go_quiet (fail)
  go_wp2_with fail
  simp only [Exit.jump]
  go_ret2
  exact ⟨rfl, RrStep.drewN (RrStep.refl HR.out) _⟩

set_option maxHeartbeats 1000000 in
theorem next_empty (lo b : Nat) (most : Int) (t : Bool) (w : World) (h : Rr lo b ([], 0) w) :
    Calls Try.prog 62 #[.pointer (some ⟨b, 0, none⟩), .int .i64 most, .bool t] w fun e w' => e = .returned (.tuple #[.int .i64 0, .string (B [])]) ∧ RrStep lo b ([], 21) w w' := by
  obtain ⟨f0, f1⟩ := h.free
  have c0 := h.cell0
  have c1 := h.cell1
  have HK := Lib.hid (show lead 7 [] + 1 = 1 from rfl)
  have HR := Lib.hid h; clear h
  go_enter Try.func62, Try.ntmps62
  go_wp2_with fail
  refine wp_scope_jumps 0 (fun a' w' => NextFrame b 21 a' ∧ ∃ n, w' = w.drewN n) (fun _ _ => 0) rfl ?_ ?_
  rotate_left
  · rintro a' w' ⟨⟨u1, u2, u3, u4, u5, u6, u7, u8, u10, u11, u12, u13, u14, u15, u16, u17, u18, u19, u20, u21, u22, u23, u24, u25, u26, u27, u28, u29, u30, u31, u32, u33, u34, u35, u36, u37, u38, u39, u40, u41, u42, u43, u44, u45, u46, u47, u48, u49, u50, u51, u52, u53, u54, u55, u56, u57, u58, u59, u60, u61, u62, u63, u64, u65, u66, u67, u68, u69, u70, u71, u72, u73, u74, u75, rfl⟩, n, rfl⟩
    go_wp2
    simp only [Exit.jump]
    go_ret2
    exact ⟨rfl, RrStep.put1 (RrStep.put0 (RrStep.drewN (RrStep.refl HR.out) _) []) 21⟩
  go_wp2_with fail
  go_quiet (fail)
  go_wp2_with fail
  refine (numLen_c [] _ (by simp)).mono ?_
  rintro e w1 ⟨rfl, rfl⟩
  rw [HK.out]
  go_wp2_with fail
  go_step3
  exact ⟨rfl, ⟨_, _, _, _, _, _, _, _, _, _, _, _, _, _, _, _, _, _, _, _, _, _, _, _, _, _, _, _, _, _, _, _, _, _, _, _, _, _, _, _, _, _, _, _, _, _, _, _, _, _, _, _, _, _, _, _, _, _, _, _, _, _, _, _, _, _, _, _, _, _, _, _, _, _, rfl⟩, _, rfl⟩

/-- What next answers, of a number alone. -/
theorem nextN_c (lo b : Nat) (s : Rst) (most : Int) (w : World) (h : Rr lo b s w) (hl : s.1.length ≤ 1000000) :
    Calls Try.prog 62 #[.pointer (some ⟨b, 0, none⟩), .int .i64 most, .bool false] w fun e w' => e = .returned (.tuple #[.int .i64 (rNum s most).1, .string (B [])]) ∧ RrStep lo b (rNum s most).2 w w' := by
  obtain ⟨l, er⟩ := s
  by_cases he : er ≠ 0
  · have : rNum (l, er) most = (0, (l, er)) := by unfold rNum; rw [if_pos he]
    rw [this]; exact next_err lo b l er most false w h he
  have he : er = 0 := by simpa using he
  subst he
  have hN : rNum (l, 0) most = ((nx l most).2.1, ((nx l most).2.2, (nx l most).1)) := by unfold rNum; rw [if_neg (by simp)]
  rw [hN]
  rcases Nat.eq_zero_or_pos l.length with hl0 | hl0
  · have : l = [] := List.eq_nil_of_length_eq_zero (by omega)
    subst this
    exact next_empty lo b most false w h
  have hh : l.head? = some 128 ↔ (l[0]'hl0).toNat = 128 := by
    rw [List.head?_eq_getElem?, List.getElem?_eq_getElem hl0]
    constructor
    · intro h; rw [Option.some.inj h]; rfl
    · intro h; rw [← UInt8.toNat_inj.1 (show (l[0]'hl0).toNat = (128 : UInt8).toNat from h)]
  by_cases hc : (l[0]'hl0).toNat = 128
  · have : nx l most = (3, 0, []) := by unfold nx; rw [if_pos (.inl (hh.2 hc))]
    rw [this]; exact next_first lo b l most _ w h hl false hl0 hc rfl
  have h7 := lead_le 7 l
  have hll := lead_len 7 l
  by_cases h8 : lead 7 l = 7
  · have : nx l most = (3, 0, []) := by unfold nx; rw [if_pos (.inr h8)]
    rw [this]; exact next_seven lo b l most _ w h hl false hl0 hc rfl (by omega)
  have hno : ¬ (l.head? = some 128 ∨ lead 7 l = 7) := by rw [hh]; exact fun h => h.elim hc h8
  by_cases h9 : lead 7 l = l.length
  · have : nx l most = (21, 0, []) := by unfold nx; rw [if_neg hno, if_pos h9]
    rw [this]; exact next_end lo b l most _ w h hl false hl0 hc rfl (by omega) (by omega)
  by_cases hM : M < val (l.take (lead 7 l + 1))
  · have : nx l most = (3, 0, []) := by unfold nx; rw [if_neg hno, if_neg h9, if_pos (.inl hM)]
    rw [this]; exact next_big lo b l most _ _ w h hl false hl0 hc rfl (by omega) (by omega) rfl hM
  by_cases hm : most < (val (l.take (lead 7 l + 1)) : Int)
  · have : nx l most = (3, 0, []) := by unfold nx; rw [if_neg hno, if_neg h9, if_pos (.inr hm)]
    rw [this]; exact next_most lo b l most _ _ w h hl false hl0 hc rfl (by omega) (by omega) rfl (by omega) hm
  have : nx l most = (0, val (l.take (lead 7 l + 1)), l.drop (lead 7 l + 1)) := by unfold nx; rw [if_neg hno, if_neg h9, if_neg (by omega)]
  rw [this]; exact next_ok lo b l most _ _ w h hl hl0 hc rfl (by omega) (by omega) rfl (Nat.le_of_not_lt hM) (Int.not_lt.1 hm)

/-- What next answers, of a text. -/
theorem nextT_c (lo b : Nat) (s : Rst) (w : World) (h : Rr lo b s w) (hl : s.1.length ≤ 1000000) :
    Calls Try.prog 62 #[.pointer (some ⟨b, 0, none⟩), .int .i64 M, .bool true] w fun e w' => (∃ n : Int, e = .returned (.tuple #[.int .i64 n, .string (B (rText s).1)])) ∧ RrStep lo b (rText s).2 w w' := by
  obtain ⟨l, er⟩ := s
  by_cases he : er ≠ 0
  · have : rText (l, er) = ([], (l, er)) := by unfold rText; rw [if_pos he]
    rw [this]; exact (next_err lo b l er M true w h he).mono fun e w' h => ⟨⟨_, h.1⟩, h.2⟩
  have he : er = 0 := by simpa using he
  subst he
  have hT : ∀ e : Int, e ≠ 0 → nx l M = (e, 0, []) → rText (l, 0) = ([], ([], e)) := by
    intro e h1 h2; unfold rText; rw [if_neg (by simp), h2, if_pos h1]
  rcases Nat.eq_zero_or_pos l.length with hl0 | hl0
  · have : l = [] := List.eq_nil_of_length_eq_zero (by omega)
    subst this
    rw [hT 21 (by simp) rfl]
    exact (next_empty lo b M true w h).mono fun e w' h => ⟨⟨_, h.1⟩, h.2⟩
  have hh : l.head? = some 128 ↔ (l[0]'hl0).toNat = 128 := by
    rw [List.head?_eq_getElem?, List.getElem?_eq_getElem hl0]
    constructor
    · intro h; rw [Option.some.inj h]; rfl
    · intro h; rw [← UInt8.toNat_inj.1 (show (l[0]'hl0).toNat = (128 : UInt8).toNat from h)]
  by_cases hc : (l[0]'hl0).toNat = 128
  · rw [hT 3 (by simp) (by unfold nx; rw [if_pos (.inl (hh.2 hc))])]
    exact (next_first lo b l M _ w h hl true hl0 hc rfl).mono fun e w' h => ⟨⟨_, h.1⟩, h.2⟩
  have h7 := lead_le 7 l
  have hll := lead_len 7 l
  by_cases h8 : lead 7 l = 7
  · rw [hT 3 (by simp) (by unfold nx; rw [if_pos (.inr h8)])]
    exact (next_seven lo b l M _ w h hl true hl0 hc rfl (by omega)).mono fun e w' h => ⟨⟨_, h.1⟩, h.2⟩
  have hno : ¬ (l.head? = some 128 ∨ lead 7 l = 7) := by rw [hh]; exact fun h => h.elim hc h8
  by_cases h9 : lead 7 l = l.length
  · rw [hT 21 (by simp) (by unfold nx; rw [if_neg hno, if_pos h9])]
    exact (next_end lo b l M _ w h hl true hl0 hc rfl (by omega) (by omega)).mono fun e w' h => ⟨⟨_, h.1⟩, h.2⟩
  by_cases hM : M < val (l.take (lead 7 l + 1))
  · rw [hT 3 (by simp) (by unfold nx; rw [if_neg hno, if_neg h9, if_pos (.inl hM)])]
    exact (next_big lo b l M _ _ w h hl true hl0 hc rfl (by omega) (by omega) rfl hM).mono fun e w' h => ⟨⟨_, h.1⟩, h.2⟩
  have hx : nx l M = (0, val (l.take (lead 7 l + 1)), l.drop (lead 7 l + 1)) := by unfold nx; rw [if_neg hno, if_neg h9, if_neg (by omega)]
  by_cases hs : (l.drop (lead 7 l + 1)).length < val (l.take (lead 7 l + 1))
  · have : rText (l, 0) = ([], ([], 21)) := by unfold rText; rw [if_neg (by simp), hx, if_neg (by simp), if_pos hs]
    rw [this]
    exact (next_short lo b l M _ _ w h hl hl0 hc rfl (by omega) (by omega) rfl (by omega) (by omega) hs).mono fun e w' h => ⟨⟨_, h.1⟩, h.2⟩
  · have : rText (l, 0) = ((l.drop (lead 7 l + 1)).take (val (l.take (lead 7 l + 1))), ((l.drop (lead 7 l + 1)).drop (val (l.take (lead 7 l + 1))), 0)) := by unfold rText; rw [if_neg (by simp), hx, if_neg (by simp), if_neg hs]
    rw [this]
    exact (next_text lo b l M _ _ w h hl hl0 hc rfl (by omega) (by omega) rfl (by omega) (by omega) (by omega)).mono fun e w' h => ⟨⟨_, h.1⟩, h.2⟩

set_option maxHeartbeats 1000000 in
theorem RNum_c (lo b : Nat) (s : Rst) (most : Int) (w : World) (h : Rr lo b s w) (hl : s.1.length ≤ 1000000) :
    Calls Try.prog 45 #[.pointer (some ⟨b, 0, none⟩), .int .i64 most] w fun e w' => e = .returned (.int .i64 (rNum s most).1) ∧ RrStep lo b (rNum s most).2 w w' := by
  have hc := nextN_c lo b s most w h hl
  generalize rNum s most = x at hc ⊢
  obtain ⟨n, s2⟩ := x
  have HC := Lib.hid hc; clear hc
  go_enter Try.func45, Try.ntmps45
  go_wp2_with fail
  refine HC.out.mono ?_
  rintro e w1 ⟨rfl, h1⟩
  have H1 := Lib.hid h1; clear h1
  go_wp2
  go_ret
  exact ⟨rfl, H1.out⟩

set_option maxHeartbeats 1000000 in
theorem RText_c (lo b : Nat) (s : Rst) (w : World) (h : Rr lo b s w) (hl : s.1.length ≤ 1000000) :
    Calls Try.prog 49 #[.pointer (some ⟨b, 0, none⟩)] w fun e w' => e = .returned (.string (B (rText s).1)) ∧ RrStep lo b (rText s).2 w w' := by
  have hc := nextT_c lo b s w h hl
  rw [show ((M : Nat) : Int) = 281474976710656 from rfl] at hc
  generalize rText s = x at hc ⊢
  obtain ⟨t, s2⟩ := x
  have HC := Lib.hid hc; clear hc
  go_enter Try.func49, Try.ntmps49
  go_wp2_with fail
  refine HC.out.mono ?_
  rintro e w1 ⟨⟨n, rfl⟩, h1⟩
  have H1 := Lib.hid h1; clear h1 HC
  go_wp2
  go_ret
  exact ⟨rfl, H1.out⟩

def stEnd (s : Rst) : Bool := s.2 == 0 && s.1.isEmpty

theorem REnd_c (lo b : Nat) (s : Rst) (w : World) (h : Rr lo b s w) :
    Calls Try.prog 24 #[.pointer (some ⟨b, 0, none⟩)] w fun e w' => e = .returned (.bool (stEnd s)) ∧ w = w' := by
  have c0 := h.cell0
  have c1 := h.cell1
  clear h
  obtain ⟨l, er⟩ := s
  unfold stEnd
  simp only at c0 c1 ⊢
  by_cases he : er = 0
  · subst he
    cases l with
    | nil =>
      go_enter Try.func24, Try.ntmps24
      go_wp2
      go_ret
      exact ⟨rfl, rfl⟩
    | cons c r =>
      go_enter Try.func24, Try.ntmps24
      go_wp2
      go_ret
      exact ⟨rfl, rfl⟩
  · have he' : (er == 0) = false := beq_eq_false_iff_ne.2 he
    go_enter Try.func24, Try.ntmps24
    go_wp2
    go_ret
    exact ⟨ret_bool (by rw [he']; rfl), rfl⟩
end Go.Proofs.Ytlmfinpmlilcgaa

/- The document's Same of stores. -/
namespace Go.Proofs.Ytlmfinpmlilcgaa
set_option maxRecDepth 20000
set_option linter.unusedVariables false
set_option linter.unusedSimpArgs false
open Go.RowKit Pm
abbrev TST : TypeId := 26
theorem boxP2 {w : World} {b : Nat} {T : TypeId} {c0 c1 : Value} (h : w.heap[b]? = some (.cells #[c0, c1] T (0, 0))) : w.cell? ⟨b, 0, none⟩ = some c0 ∧ w.cell? ⟨b, 1, none⟩ = some c1 :=
  ⟨by rw [cell_of_row _ _ _ _ _ _ h]; rfl, by rw [cell_of_row _ _ _ _ _ _ h]; rfl⟩

theorem fTu : (Try.prog.fieldsOf TU).toList = [⟨ "Dir", 9, 0, false, "", "", 0⟩, ⟨ "Next", 2, 1, false, "", "", 16⟩] := by kernel_rfl
theorem eq_tu (w : World) (p p' : ByteArray) (v v' : Int) : (Op.equalIn 10000 TU (.agg #[.string p, .int .i64 v]) (.agg #[.string p', .int .i64 v'])).run Try.prog w =
    .ok (decide (p.toList = p'.toList ∧ v = v')) w := by
  rw [run_equalIn_agg w 9999 TU _ _ (by kernel_rfl) (by kernel_rfl), fTu]
  have e2 := fun w a b => run_equalIn_int (P := Try.prog) w 9998 2 .i64 .i64 a b Try.underlying2
  have e3 := fun w a b => run_equalIn_string (P := Try.prog) w 9998 9 a b Try.underlying9
  simp only [Op.eqFields]
  simp [e2, e3, go_sem]
  by_cases h2 : p.toList = p'.toList <;> by_cases h4 : v = v' <;> simp [h2, h4]
theorem eq_tus (w : World) (x y : Tu) : (Op.equalIn 10000 TU (.agg #[.string (B x.dir), .int .i64 x.next]) (.agg #[.string (B y.dir), .int .i64 y.next])).run Try.prog w = .ok (decide (x = y)) w := by
  rw [eq_tu]
  congr 1
  simp only [B_list]
  obtain ⟨_, _⟩ := x
  obtain ⟨_, _⟩ := y
  simp
/-- Ahead of round k of Same. -/
structure SsM (a b : List Tu) (w : World) (k : Nat) (wr : World) : Prop where
  fp : Fp Non w wr
  eq : a.take k = b.take k
theorem take_succ_eqT {a b : List Tu} {k : Nat} (ha : k < a.length) (hb : k < b.length) (h : a.take k = b.take k) (e : a[k] = b[k]) : a.take (k + 1) = b.take (k + 1) := by
  rw [List.take_succ_eq_append_getElem ha, List.take_succ_eq_append_getElem hb, h, e]

set_option maxHeartbeats 4000000 in
theorem rSameS_c (va vb : Value) (a b : St) (w : World) (hva : Sto w va a) (hvb : Sto w vb b) (h1 : a.nodes.length ≤ 1000000) (h2 : b.nodes.length ≤ 1000000) (h3 : a.turns.length ≤ 1000000) (h4 : b.turns.length ≤ 1000000) :
    Calls Try.prog 27 #[va, vb] w fun e w' => e = .returned (.bool (decide (a = b))) ∧ Fp Non w w' := by
  obtain ⟨an, at_, rfl, ha1, ha2⟩ := hva.ex
  obtain ⟨bn, bt, rfl, hb1, hb2⟩ := hvb.ex
  have hsn := fun W (f : Fp Non w W) => rSameN_c an bn a.nodes b.nodes W (ha1.non f) (hb1.non f) h1 h2
  obtain ⟨ao, ca, rfl⟩ := ha2.shape
  obtain ⟨bo, cb, rfl⟩ := hb2.shape
  obtain ⟨bq, hq⟩ : ∃ r, decide (a.nodes = b.nodes) = r := ⟨_, rfl⟩
  rw [hq] at hsn
  obtain ⟨n, hn⟩ : ∃ n, n = a.turns.length := ⟨_, rfl⟩
  obtain ⟨m, hm⟩ : ∃ m, m = b.turns.length := ⟨_, rfl⟩
  have hnb : n ≤ 1000000 := by omega
  have HN := Lib.hid (And.intro hn (And.intro hm (And.intro ha2 hb2)))
  have HS := Lib.hid (And.intro hsn hq)
  have key : (decide (a = b)) = (bq && decide (a.turns = b.turns)) := by
    rw [← hq]
    obtain ⟨an', at'⟩ := a
    obtain ⟨bn', bt'⟩ := b
    rw [Bool.eq_iff_iff]
    simp
  have HK := Lib.hid key
  rw [← hn, ← hm]
  have f1 := fp_alloc w (.cells #[an, .slice ao n ca] TST)
  have f2 := fp_alloc (w.alloc (.cells #[an, .slice ao n ca] TST)) (.cells #[bn, .slice bo m cb] TST)
  have r1 := f2.heap (heap_alloc_new w (.cells #[an, .slice ao n ca] TST)) (fun h => h)
  have r2 := heap_alloc_new (w.alloc (.cells #[an, .slice ao n ca] TST)) (.cells #[bn, .slice bo m cb] TST)
  rw [show (w.alloc (.cells #[an, .slice ao n ca] TST)).heap.size = w.heap.size + 1 from by simp] at r2
  have K0 := Lib.hid (Kp.and (Kp.fp (f1.then f2)) (Kp.and (Kp.row r1) (Kp.row r2)))
  clear key hq hsn ha1 ha2 hb1 hb2 hva hvb hn hm h1 h2 h3 h4 f1 f2 r1 r2
  go_enter Try.func27, Try.ntmps27
  go_wp2_with fail
  obtain ⟨a0, a1⟩ := boxP2 K0.out.now.2.1
  obtain ⟨b0, b1⟩ := boxP2 K0.out.now.2.2
  refine (HS.out.1 _ K0.out.now.1).mono ?_
  rintro e w1 ⟨rfl, hf⟩
  have K1 := Lib.hid (K0.out.later hf)
  clear hf a0 a1 b0 b1 K0
  obtain ⟨a0, a1⟩ := boxP2 K1.out.now.2.1
  obtain ⟨b0, b1⟩ := boxP2 K1.out.now.2.2
  cases bq with
  | false =>
    have HKF := Lib.hid (show decide (a = b) = false by rw [HK.out]; rfl)
    go_wp2
    go_ret
    exact ⟨ret_bool HKF.out.symm, K1.out.now.1⟩
  | true =>
    by_cases hl : n = m
    · subst hl
      have H0 : Hid (SsM a.turns b.turns w 0 w1 ∧ w1.heap[w.heap.size]? = some (.cells #[an, .slice ao n ca] TST (0, 0)) ∧ w1.heap[w.heap.size + 1]? = some (.cells #[bn, .slice bo n cb] TST (0, 0))) := ⟨⟨K1.out.now.1, by simp⟩, K1.out.now.2.1, K1.out.now.2.2⟩
      have heq := eq_tus
      go_wp2_with fail
      go_loopw [5] (fun i wr => ∃ k : Nat, k ≤ n ∧ i = .int .i64 k ∧ Hid (SsM a.turns b.turns w k wr ∧ wr.heap[w.heap.size]? = some (.cells #[an, .slice ao n ca] TST (0, 0)) ∧ wr.heap[w.heap.size + 1]? = some (.cells #[bn, .slice bo n cb] TST (0, 0)))) (fun i _ => n - (RowKit.intOf i).toNat)
      case atStart => exact ⟨0, Nat.zero_le _, rfl, H0⟩
      case round =>
        clear H0 a0 a1 b0 b1
        obtain ⟨k, hk, rfl, hR⟩ := hrel
        rename_i wr _
        obtain ⟨a0, a1⟩ := boxP2 hR.out.2.1
        obtain ⟨b0, b1⟩ := boxP2 hR.out.2.2
        by_cases hlt : k < n
        · have hka : k < a.turns.length := by rw [← HN.out.1]; exact hlt
          have hkb : k < b.turns.length := by rw [← HN.out.2.1]; exact hlt
          obtain ⟨g, o, cap', e, _, _, _, hcell⟩ := HN.out.2.2.1.at (by omega)
          injection e with e1 e2 e3
          subst e1 e3
          clear e2
          obtain ⟨g', o', cap', e, _, _, _, hcell'⟩ := HN.out.2.2.2.at (by omega)
          injection e with e1 e2 e3
          subst e1 e3
          clear e2
          have hnd := (hcell k hka).keep hR.out.1.fp (fun h => h)
          have hnd' := (hcell' k hkb).keep hR.out.1.fp (fun h => h)
          have q3 : ((k : Int) < (n : Int)) = True := eq_true (by omega)
          have q4 : (k < n) = True := eq_true hlt
          have hnx := fun e (N : Nat) => (show SsM a.turns b.turns w (k + 1) (wr.drewN N) ∧ (wr.drewN N).heap[w.heap.size]? = some (.cells #[an, .slice (some ⟨g, o, none⟩) n ca] TST (0, 0)) ∧ (wr.drewN N).heap[w.heap.size + 1]? = some (.cells #[bn, .slice (some ⟨g', o', none⟩) n cb] TST (0, 0)) from ⟨⟨hR.out.1.fp.then ((Fp.refl _ _).drewN N), take_succ_eqT hka hkb hR.out.1.eq e⟩, ((Fp.refl Non wr).drewN N).heap hR.out.2.1 (fun h => h), ((Fp.refl Non wr).drewN N).heap hR.out.2.2 (fun h => h)⟩)
          have hno := fun (e : a.turns[k] ≠ b.turns[k]) => (show decide (a = b) = false by
            rw [HK.out]
            have : a.turns ≠ b.turns := fun h => e (by simp only [h])
            rw [decide_eq_false this]; rfl)
          have HNX := Lib.hid hnx
          have HNO := Lib.hid hno
          have HL := Lib.hid hlt
          clear hcell hcell' hnx hno hlt
          generalize a.turns[k] = x at *
          generalize b.turns[k] = y at *
          have c0 := hnd.c0; have c1 := hnd.c1
          have d0 := hnd'.c0; have d1 := hnd'.c1
          unfold strV at c0 d0
          clear hnd hnd' hka hkb
          by_cases hxy : x = y
          · have q5 : decide (x = y) = true := decide_eq_true hxy
            have q6 : (x = y) = True := eq_true hxy
            have hM := Lib.hid (HNX.out hxy)
            have hj := HL.out
            clear hxy
            go_wp2_with fail
            go_quiet (fail)
            go_wp2
            go_roundw
            case rel => exact ⟨k + 1, by omega, by go_num, hM.out _⟩
            case measure => simp [RowKit.intOf]; omega
          · have q5 : decide (x = y) = false := decide_eq_false hxy
            have q6 : (x = y) = False := eq_false hxy
            have HN9 := Lib.hid (HNO.out hxy)
            clear hxy
            go_wp2_with fail
            go_quiet (fail)
            go_wp2
            go_ret
            exact ⟨ret_bool HN9.out.symm, hR.out.1.fp.drewN _⟩
        · have hke : k = n := by omega
          subst hke
          have q3 : ((k : Int) < (k : Int)) = False := eq_false (by omega)
          have hfin : decide (a = b) = true := by
            have := hR.out.1.eq
            rw [HN.out.1, List.take_length, ← HN.out.1, HN.out.2.1, List.take_length] at this
            rw [HK.out, decide_eq_true this]; rfl
          have HFN := Lib.hid hfin
          clear hlt hk hfin
          go_wp2
          go_ret
          exact ⟨ret_bool HFN.out.symm, hR.out.1.fp⟩
    · have HKF := Lib.hid (show decide (a = b) = false by
        rw [HK.out]
        have : a.turns ≠ b.turns := fun h => hl (by rw [HN.out.1, HN.out.2.1, h])
        rw [decide_eq_false this]; rfl)
      have q1 : ((n : Int) == (m : Int)) = false := beq_eq_false_iff_ne.2 (by omega)
      have q2 : ((n : Int) = (m : Int)) = False := eq_false (by omega)
      have q3 : (n == m) = false := beq_eq_false_iff_ne.2 hl
      have q4 : (n = m) = False := eq_false hl
      have q5 : ((n : Int) != (m : Int)) = true := by
        have : (n : Int) ≠ (m : Int) := by omega
        simpa using this
      clear hl
      go_wp2
      go_ret
      exact ⟨ret_bool HKF.out.symm, K1.out.now.1⟩
end Go.Proofs.Ytlmfinpmlilcgaa

