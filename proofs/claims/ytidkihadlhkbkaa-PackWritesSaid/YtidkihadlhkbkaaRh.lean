/- The reader of package pack, on: contracts over plain lists. -/
import Derived.Test.YtidkihadlhkbkaaRe
import Derived.Test.YtidkihadlhkbkaaRf
import Derived.Test.YtidkihadlhkbkaaRg
namespace Go.Proofs.Ytidkihadlhkbkaa
open Go.RowKit Pm

set_option maxHeartbeats 1000000 in
theorem next_err (lo b : Nat) (l : Bs) (er most : Int) (t : Bool) (w : World) (h : Rr lo b (l, er) w) (he : er ≠ 0) :
    Calls Try.prog 34 #[.pointer (some ⟨b, 0, none⟩), .int .i64 most, .bool t] w fun e w' => e = .returned (.tuple #[.int .i64 0, .string (B [])]) ∧ RrStep lo b (l, er) w w' := by
  have c0 := h.cell0
  have c1 := h.cell1
  have he' : (er == 0) = false := beq_eq_false_iff_ne.2 he
  have HR := Lib.hid h; clear h he
  go_enter Try.func34, Try.ntmps34
  go_wp2_with fail
  refine wp_scope_jumps 0 (fun _ _ => False) (fun _ _ => 0) rfl ?_ (fun _ _ h => h.elim)
  go_wp2_with fail
  go_quiet (fail)
  go_wp2_with fail
  simp only [Exit.jump]
  go_ret2
  exact ⟨rfl, RrStep.drewN (RrStep.refl HR.out) _⟩

set_option maxHeartbeats 1000000 in
theorem next_empty (lo b : Nat) (most : Int) (t : Bool) (w : World) (h : Rr lo b ([], 0) w) :
    Calls Try.prog 34 #[.pointer (some ⟨b, 0, none⟩), .int .i64 most, .bool t] w fun e w' => e = .returned (.tuple #[.int .i64 0, .string (B [])]) ∧ RrStep lo b ([], 21) w w' := by
  obtain ⟨f0, f1⟩ := h.free
  have c0 := h.cell0
  have c1 := h.cell1
  have HK := Lib.hid (show lead 7 [] + 1 = 1 from rfl)
  have HR := Lib.hid h; clear h
  go_enter Try.func34, Try.ntmps34
  go_wp2_with fail
  refine wp_scope_jumps 0 (fun a' w' => NextFrame b 21 a' ∧ ∃ n, w' = w.drewN n) (fun _ _ => 0) rfl ?_ ?_
  rotate_left
  · rintro a' w' ⟨⟨u1, u2, u3, u4, u5, u6, u7, u8, u10, u11, u12, u13, u14, u15, u16, u17, u18, u19, u20, u21, u22, u23, u24, u25, u26, u27, u28, u29, u30, u31, u32, u33, u34, u35, u36, u37, u38, u39, u40, u41, u42, u43, u44, u45, u46, u47, u48, u49, u50, u51, u52, u53, u54, u55, u56, u57, u58, u59, u60, u61, u62, u63, u64, u65, u66, u67, u68, u69, u70, u71, u72, u73, u74, u75, rfl⟩, n, rfl⟩
    go_wp2
    simp only [Exit.jump]
    go_ret2
    exact ⟨rfl, RrStep.put1 (RrStep.put0 (RrStep.drewN (RrStep.refl HR.out) _) []) 21⟩
  go_wp2_with fail
  go_quiet (fail)
  go_wp2_with fail
  refine (numLen_c [] _ (by simp)).mono ?_
  rintro e w1 ⟨rfl, rfl⟩
  rw [HK.out]
  go_wp2_with fail
  go_step3
  exact ⟨rfl, ⟨_, _, _, _, _, _, _, _, _, _, _, _, _, _, _, _, _, _, _, _, _, _, _, _, _, _, _, _, _, _, _, _, _, _, _, _, _, _, _, _, _, _, _, _, _, _, _, _, _, _, _, _, _, _, _, _, _, _, _, _, _, _, _, _, _, _, _, _, _, _, _, _, _, _, rfl⟩, _, rfl⟩

/-- What next answers, of a number alone. -/
theorem nextN_c (lo b : Nat) (s : St) (most : Int) (w : World) (h : Rr lo b s w) (hl : s.1.length ≤ 1000000) :
    Calls Try.prog 34 #[.pointer (some ⟨b, 0, none⟩), .int .i64 most, .bool false] w fun e w' => e = .returned (.tuple #[.int .i64 (rNum s most).1, .string (B [])]) ∧ RrStep lo b (rNum s most).2 w w' := by
  obtain ⟨l, er⟩ := s
  by_cases he : er ≠ 0
  · have : rNum (l, er) most = (0, (l, er)) := by unfold rNum; rw [if_pos he]
    rw [this]; exact next_err lo b l er most false w h he
  have he : er = 0 := by simpa using he
  subst he
  have hN : rNum (l, 0) most = ((nx l most).2.1, ((nx l most).2.2, (nx l most).1)) := by unfold rNum; rw [if_neg (by simp)]
  rw [hN]
  rcases Nat.eq_zero_or_pos l.length with hl0 | hl0
  · have : l = [] := List.eq_nil_of_length_eq_zero (by omega)
    subst this
    exact next_empty lo b most false w h
  have hh : l.head? = some 128 ↔ (l[0]'hl0).toNat = 128 := by
    rw [List.head?_eq_getElem?, List.getElem?_eq_getElem hl0]
    constructor
    · intro h; rw [Option.some.inj h]; rfl
    · intro h; rw [← UInt8.toNat_inj.1 (show (l[0]'hl0).toNat = (128 : UInt8).toNat from h)]
  by_cases hc : (l[0]'hl0).toNat = 128
  · have : nx l most = (3, 0, []) := by unfold nx; rw [if_pos (.inl (hh.2 hc))]
    rw [this]; exact next_first lo b l most _ w h hl false hl0 hc rfl
  have h7 := lead_le 7 l
  have hll := lead_len 7 l
  by_cases h8 : lead 7 l = 7
  · have : nx l most = (3, 0, []) := by unfold nx; rw [if_pos (.inr h8)]
    rw [this]; exact next_seven lo b l most _ w h hl false hl0 hc rfl (by omega)
  have hno : ¬ (l.head? = some 128 ∨ lead 7 l = 7) := by rw [hh]; exact fun h => h.elim hc h8
  by_cases h9 : lead 7 l = l.length
  · have : nx l most = (21, 0, []) := by unfold nx; rw [if_neg hno, if_pos h9]
    rw [this]; exact next_end lo b l most _ w h hl false hl0 hc rfl (by omega) (by omega)
  by_cases hM : M < val (l.take (lead 7 l + 1))
  · have : nx l most = (3, 0, []) := by unfold nx; rw [if_neg hno, if_neg h9, if_pos (.inl hM)]
    rw [this]; exact next_big lo b l most _ _ w h hl false hl0 hc rfl (by omega) (by omega) rfl hM
  by_cases hm : most < (val (l.take (lead 7 l + 1)) : Int)
  · have : nx l most = (3, 0, []) := by unfold nx; rw [if_neg hno, if_neg h9, if_pos (.inr hm)]
    rw [this]; exact next_most lo b l most _ _ w h hl false hl0 hc rfl (by omega) (by omega) rfl (by omega) hm
  have : nx l most = (0, val (l.take (lead 7 l + 1)), l.drop (lead 7 l + 1)) := by unfold nx; rw [if_neg hno, if_neg h9, if_neg (by omega)]
  rw [this]; exact next_ok lo b l most _ _ w h hl hl0 hc rfl (by omega) (by omega) rfl (Nat.le_of_not_lt hM) (Int.not_lt.1 hm)

/-- What next answers, of a text. -/
theorem nextT_c (lo b : Nat) (s : St) (w : World) (h : Rr lo b s w) (hl : s.1.length ≤ 1000000) :
    Calls Try.prog 34 #[.pointer (some ⟨b, 0, none⟩), .int .i64 M, .bool true] w fun e w' => (∃ n : Int, e = .returned (.tuple #[.int .i64 n, .string (B (rText s).1)])) ∧ RrStep lo b (rText s).2 w w' := by
  obtain ⟨l, er⟩ := s
  by_cases he : er ≠ 0
  · have : rText (l, er) = ([], (l, er)) := by unfold rText; rw [if_pos he]
    rw [this]; exact (next_err lo b l er M true w h he).mono fun e w' h => ⟨⟨_, h.1⟩, h.2⟩
  have he : er = 0 := by simpa using he
  subst he
  have hT : ∀ e : Int, e ≠ 0 → nx l M = (e, 0, []) → rText (l, 0) = ([], ([], e)) := by
    intro e h1 h2; unfold rText; rw [if_neg (by simp), h2, if_pos h1]
  rcases Nat.eq_zero_or_pos l.length with hl0 | hl0
  · have : l = [] := List.eq_nil_of_length_eq_zero (by omega)
    subst this
    rw [hT 21 (by simp) rfl]
    exact (next_empty lo b M true w h).mono fun e w' h => ⟨⟨_, h.1⟩, h.2⟩
  have hh : l.head? = some 128 ↔ (l[0]'hl0).toNat = 128 := by
    rw [List.head?_eq_getElem?, List.getElem?_eq_getElem hl0]
    constructor
    · intro h; rw [Option.some.inj h]; rfl
    · intro h; rw [← UInt8.toNat_inj.1 (show (l[0]'hl0).toNat = (128 : UInt8).toNat from h)]
  by_cases hc : (l[0]'hl0).toNat = 128
  · rw [hT 3 (by simp) (by unfold nx; rw [if_pos (.inl (hh.2 hc))])]
    exact (next_first lo b l M _ w h hl true hl0 hc rfl).mono fun e w' h => ⟨⟨_, h.1⟩, h.2⟩
  have h7 := lead_le 7 l
  have hll := lead_len 7 l
  by_cases h8 : lead 7 l = 7
  · rw [hT 3 (by simp) (by unfold nx; rw [if_pos (.inr h8)])]
    exact (next_seven lo b l M _ w h hl true hl0 hc rfl (by omega)).mono fun e w' h => ⟨⟨_, h.1⟩, h.2⟩
  have hno : ¬ (l.head? = some 128 ∨ lead 7 l = 7) := by rw [hh]; exact fun h => h.elim hc h8
  by_cases h9 : lead 7 l = l.length
  · rw [hT 21 (by simp) (by unfold nx; rw [if_neg hno, if_pos h9])]
    exact (next_end lo b l M _ w h hl true hl0 hc rfl (by omega) (by omega)).mono fun e w' h => ⟨⟨_, h.1⟩, h.2⟩
  by_cases hM : M < val (l.take (lead 7 l + 1))
  · rw [hT 3 (by simp) (by unfold nx; rw [if_neg hno, if_neg h9, if_pos (.inl hM)])]
    exact (next_big lo b l M _ _ w h hl true hl0 hc rfl (by omega) (by omega) rfl hM).mono fun e w' h => ⟨⟨_, h.1⟩, h.2⟩
  have hx : nx l M = (0, val (l.take (lead 7 l + 1)), l.drop (lead 7 l + 1)) := by unfold nx; rw [if_neg hno, if_neg h9, if_neg (by omega)]
  by_cases hs : (l.drop (lead 7 l + 1)).length < val (l.take (lead 7 l + 1))
  · have : rText (l, 0) = ([], ([], 21)) := by unfold rText; rw [if_neg (by simp), hx, if_neg (by simp), if_pos hs]
    rw [this]
    exact (next_short lo b l M _ _ w h hl hl0 hc rfl (by omega) (by omega) rfl (by omega) (by omega) hs).mono fun e w' h => ⟨⟨_, h.1⟩, h.2⟩
  · have : rText (l, 0) = ((l.drop (lead 7 l + 1)).take (val (l.take (lead 7 l + 1))), ((l.drop (lead 7 l + 1)).drop (val (l.take (lead 7 l + 1))), 0)) := by unfold rText; rw [if_neg (by simp), hx, if_neg (by simp), if_neg hs]
    rw [this]
    exact (next_text lo b l M _ _ w h hl hl0 hc rfl (by omega) (by omega) rfl (by omega) (by omega) (by omega)).mono fun e w' h => ⟨⟨_, h.1⟩, h.2⟩

set_option maxHeartbeats 1000000 in
theorem RNum_c (lo b : Nat) (s : St) (most : Int) (w : World) (h : Rr lo b s w) (hl : s.1.length ≤ 1000000) :
    Calls Try.prog 22 #[.pointer (some ⟨b, 0, none⟩), .int .i64 most] w fun e w' => e = .returned (.int .i64 (rNum s most).1) ∧ RrStep lo b (rNum s most).2 w w' := by
  have hc := nextN_c lo b s most w h hl
  generalize rNum s most = x at hc ⊢
  obtain ⟨n, s2⟩ := x
  have HC := Lib.hid hc; clear hc
  go_enter Try.func22, Try.ntmps22
  go_wp2_with fail
  refine HC.out.mono ?_
  rintro e w1 ⟨rfl, h1⟩
  have H1 := Lib.hid h1; clear h1
  go_wp2
  go_ret
  exact ⟨rfl, H1.out⟩

set_option maxHeartbeats 1000000 in
theorem RText_c (lo b : Nat) (s : St) (w : World) (h : Rr lo b s w) (hl : s.1.length ≤ 1000000) :
    Calls Try.prog 24 #[.pointer (some ⟨b, 0, none⟩)] w fun e w' => e = .returned (.string (B (rText s).1)) ∧ RrStep lo b (rText s).2 w w' := by
  have hc := nextT_c lo b s w h hl
  rw [show ((M : Nat) : Int) = 281474976710656 from rfl] at hc
  generalize rText s = x at hc ⊢
  obtain ⟨t, s2⟩ := x
  have HC := Lib.hid hc; clear hc
  go_enter Try.func24, Try.ntmps24
  go_wp2_with fail
  refine HC.out.mono ?_
  rintro e w1 ⟨⟨n, rfl⟩, h1⟩
  have H1 := Lib.hid h1; clear h1 HC
  go_wp2
  go_ret
  exact ⟨rfl, H1.out⟩

theorem RErr_c (lo b : Nat) (s : St) (w : World) (h : Rr lo b s w) :
    Calls Try.prog 29 #[.pointer (some ⟨b, 0, none⟩)] w fun e w' => e = .returned (.int .i64 s.2) ∧ w = w' := by
  have c1 := h.cell1
  clear h
  go_enter Try.func29, Try.ntmps29
  go_wp2
  go_ret
  exact ⟨rfl, rfl⟩

def stEnd (s : St) : Bool := s.2 == 0 && s.1.isEmpty

theorem REnd_c (lo b : Nat) (s : St) (w : World) (h : Rr lo b s w) :
    Calls Try.prog 30 #[.pointer (some ⟨b, 0, none⟩)] w fun e w' => e = .returned (.bool (stEnd s)) ∧ w = w' := by
  have c0 := h.cell0
  have c1 := h.cell1
  clear h
  obtain ⟨l, er⟩ := s
  unfold stEnd
  simp only at c0 c1 ⊢
  by_cases he : er = 0
  · subst he
    cases l with
    | nil =>
      go_enter Try.func30, Try.ntmps30
      go_wp2
      go_ret
      exact ⟨rfl, rfl⟩
    | cons c r =>
      go_enter Try.func30, Try.ntmps30
      go_wp2
      go_ret
      exact ⟨rfl, rfl⟩
  · have he' : (er == 0) = false := beq_eq_false_iff_ne.2 he
    go_enter Try.func30, Try.ntmps30
    go_wp2
    go_ret
    exact ⟨ret_bool (by rw [he']; rfl), rfl⟩
end Go.Proofs.Ytidkihadlhkbkaa
