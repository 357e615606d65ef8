/- The document's own reader, on: contracts over plain lists. -/
import Derived.Test.YtidkihadlhkbkaaQb
import Derived.Laws.BytesArg
namespace Go.Proofs.Ytidkihadlhkbkaa
open Go.RowKit Pm

theorem conv_sl (w : World) (v : Value) (l : Bs) (h : Sl w v l) : (convert 26 9 v).run Try.prog w = .ok (.string (B l)) w := by
  obtain ⟨ao, cap, rfl, h1, h2, h3⟩ := h.ex
  rcases h3 with ⟨rfl, rfl⟩ | ⟨g, o, rfl, hg, hc⟩
  · have h0 : l = [] := List.eq_nil_of_length_eq_zero (by omega)
    subst h0
    rw [run_convert_bytes_nil w 26 5 Try.underlying26 Try.underlying5 _ _ 9 Try.underlying9]
    rfl
  · rw [run_convert_bytes_arg w 26 5 Try.underlying26 Try.underlying5 g o l.length cap (l.map fun x => (x.toNat : Int)) (by simp) ?_ 9 Try.underlying9]
    · have : strOfNums (l.map fun x => (x.toNat : Int)) = B l := by
        apply ByteArray.ext; apply Array.toList_inj.1
        rw [strOfNums_data]
        show _ = l
        rw [List.map_map]
        conv => rhs; rw [← List.map_id l]
        apply List.map_congr_left
        intro x _
        simp
      rw [this]
    · intro i hi
      rw [hc i hi]
      simp [List.getD, hi]

theorem Sl.upto {w : World} {g o len cap : Nat} {l : Bs} (h : Sl w (.slice (some ⟨g, o, none⟩) len cap) l) (n : Nat) (hn : n ≤ l.length) : Sl w (.slice (some ⟨g, o, none⟩) n cap) (l.take n) := by
  obtain ⟨ao, cap', e, h1, h2, h3⟩ := h.ex
  injection e with e1 e2 e3
  subst e1 e2 e3
  have hl : (l.take n).length = n := by rw [List.length_take]; omega
  rcases h3 with ⟨h3, _⟩ | ⟨g', o', e, hg, hc⟩
  · cases h3
  · injection e with e
    injection e with e1 e2
    subst e1 e2
    refine ⟨_, cap, by rw [hl], by rw [hl]; omega, h2, .inr ⟨g, o, rfl, hg, fun j hj => ?_⟩⟩
    rw [List.getElem_take]; exact hc j (by omega)

theorem nx_len {l : Bs} {most : Int} (h : (nx l most).1 = 0) : (nx l most).2.2.length < l.length := by
  have e : nx l most = (0, (nx l most).2.1, (nx l most).2.2) := by rw [← h]
  have h1 := (nx_ok e).1
  have h2 := enc_pos (nx l most).2.1
  have h3 := congrArg List.length h1
  rw [List.length_append] at h3; omega

theorem rText_eq (s : St) : rText s = if (rNum s M).2.2 ≠ 0 then ([], (rNum s M).2) else if (rNum s M).2.1.length < (rNum s M).1 then ([], ([], 21)) else ((rNum s M).2.1.take (rNum s M).1, ((rNum s M).2.1.drop (rNum s M).1, 0)) := by
  unfold rText rNum
  by_cases h : s.2 ≠ 0
  · rw [if_pos h, if_pos h, if_pos h]
  · rw [if_neg h, if_neg h]
    by_cases h2 : (nx s.1 M).1 ≠ 0
    · rw [if_pos h2]; dsimp only; rw [if_pos h2, (nx_err h2).2]
    · rw [if_neg h2]; dsimp only; rw [if_neg h2]

theorem rNum_le (s : St) (most : Int) : (rNum s most).2.1.length ≤ s.1.length := by
  unfold rNum
  by_cases h : s.2 ≠ 0
  · rw [if_pos h]; exact Nat.le_refl _
  · rw [if_neg h]
    by_cases h2 : (nx s.1 most).1 = 0
    · exact Nat.le_of_lt (nx_len h2)
    · dsimp only; rw [(nx_err h2).2]; simp
theorem rNum_M (s : St) (most : Int) : (rNum s most).1 ≤ M := by
  unfold rNum
  by_cases h : s.2 ≠ 0
  · rw [if_pos h]; exact Nat.zero_le _
  · rw [if_neg h]; dsimp only
    by_cases h2 : (nx s.1 most).1 = 0
    · have e : nx s.1 most = (0, (nx s.1 most).2.1, (nx s.1 most).2.2) := by rw [← h2]
      exact (nx_ok e).2.1
    · rw [(nx_err h2).2]; exact Nat.zero_le _
theorem rText_le (s : St) : (rText s).2.1.length ≤ s.1.length := by
  have h := rNum_le s M
  rw [rText_eq]; split
  · exact h
  · split
    · simp
    · simp only [List.length_drop]; omega
theorem rText_lt (s : St) (h0 : s.2 = 0) (h : (rText s).2.2 = 0) : (rText s).2.1.length < s.1.length := by
  have h1 : ¬ s.2 ≠ 0 := by omega
  unfold rText at h ⊢
  rw [if_neg h1] at h ⊢
  by_cases h2 : (nx s.1 M).1 ≠ 0
  · rw [if_pos h2] at h; exact absurd h h2
  · rw [if_neg h2] at h ⊢
    have := nx_len (l := s.1) (most := M) (by omega)
    split at h
    · simp at h
    · rename_i h3
      rw [if_neg h3]; simp only [List.length_drop]; omega

theorem RqStep.next {lo b : Nat} {v v1 : Value} {s' : St} {w w1 w2 : World} (h : Fp (fun k => k = b) w w1 ∧ ∀ k, v1.ownBlock = some k → v.ownBlock = some k) (g : RqStep lo b v1 s' w1 w2) : RqStep lo b v s' w w2 := by
  obtain ⟨v2, g1, g2, g3⟩ := g
  exact ⟨v2, g1, h.1.same g2, fun k hk => h.2 k (g3 k hk)⟩

set_option maxHeartbeats 1000000 in
theorem QText_c (lo b : Nat) (v : Value) (s : St) (w : World) (h : Rq lo b v s w) (hl : s.1.length ≤ 1000000) :
    Calls Try.prog 25 #[.pointer (some ⟨b, 0, none⟩)] w fun e w' => e = .returned (.string (B (rText s).1)) ∧ RqStep lo b v (rText s).2 w w' := by
  have hc := QNum_c lo b v s M w h hl
  have hle := rNum_le s M
  have hM := rNum_M s M
  rw [rText_eq]
  generalize rNum s M = x at hc hle hM ⊢
  obtain ⟨n, r, er⟩ := x
  simp only at hle hM ⊢
  rw [show ((M : Nat) : Int) = 281474976710656 from rfl] at hc
  have HC := Lib.hid hc; clear hc
  by_cases he : er ≠ 0
  · rw [if_pos he]
    have he' : (er == 0) = false := beq_eq_false_iff_ne.2 he
    clear he
    go_enter Try.func25, Try.ntmps25
    go_wp2_with fail
    refine HC.out.mono ?_
    rintro e w1 ⟨rfl, v1, h1, hf, hv⟩
    have c1 := h1.cell1
    have H1 := Lib.hid (And.intro h1 (And.intro hf hv)); clear h1 hf hv
    go_wp2
    go_ret
    exact ⟨rfl, _, H1.out.1, H1.out.2.1, H1.out.2.2⟩
  · rw [if_neg he]
    have he0 : er = 0 := by omega
    subst he0
    clear he
    by_cases hn : r.length < n
    · rw [if_pos hn]
      have hn' : ((r.length : Int) < (n : Int)) = True := eq_true (by omega)
      have HN := Lib.hid (And.intro hn (And.intro hM hle)); clear hn hM hle
      go_enter Try.func25, Try.ntmps25
      go_wp2_with fail
      refine HC.out.mono ?_
      rintro e w1 ⟨rfl, v1, h1, hf, hv⟩
      have c0 := h1.cell0
      have c1 := h1.cell1
      obtain ⟨ao, cap, rfl, _, _, _⟩ := h1.sl.ex
      have H1 := Lib.hid (And.intro h1 (And.intro hf hv)); clear h1 hf hv
      have hn2 : (r.length < n) = True := eq_true HN.out.1
      go_wp2_with fail
      refine (fail_c lo b _ r 21 _ H1.out.1).mono ?_
      rintro e w2 ⟨rfl, h2⟩
      have H2 := Lib.hid h2; clear h2
      go_wp2
      go_ret
      exact ⟨rfl, RqStep.next H1.out.2 H2.out⟩
    · rw [if_neg hn]
      have hn' : ((r.length : Int) < (n : Int)) = False := eq_false (by omega)
      have hn2 : (r.length < n) = False := eq_false hn
      have HN := Lib.hid (And.intro hn (And.intro hM hle)); clear hn hM hle
      go_enter Try.func25, Try.ntmps25
      go_wp2_with fail
      refine HC.out.mono ?_
      rintro e w1 ⟨rfl, v1, h1, hf, hv⟩
      have c0 := h1.cell0
      have c1 := h1.cell1
      have f0 := h1.free.1
      obtain ⟨ao, cap, rfl, hlc, hcm, h3⟩ := h1.sl.ex
      rcases h3 with ⟨rfl, rfl⟩ | ⟨g, o, rfl, hg, hcell⟩
      · have hr0 : r = [] := List.eq_nil_of_length_eq_zero (by simpa using hlc)
        subst hr0
        have hn0 : n = 0 := by have := HN.out.1; simp at this; omega
        subst hn0
        have hconv := conv_sl w1 _ [] (Sl.nil w1)
        have hfin : RqStep lo b v ([], 0) w (w1.setCell ⟨b, 0, none⟩ (.slice none 0 0)) := RqStep.next ⟨hf, hv⟩ ⟨_, h1.put0 (Sl.nil _) (fun k hk => by cases hk), (Fp.refl (fun k => k = b) w1).setCell (p := ⟨b, 0, none⟩) (.inl rfl) _, fun k hk => by cases hk⟩
        have HF := Lib.hid hfin; clear hfin h1 hf hv hcm hlc
        go_wp2
        go_ret
        exact ⟨rfl, HF.out⟩
      · have hnl : n ≤ r.length := by have := HN.out.1; omega
        have hconv := conv_sl w1 _ _ (h1.sl.upto n hnl)
        obtain ⟨p, hp, hsl⟩ := h1.sl.from n hnl
        have hfin : RqStep lo b v (r.drop n, 0) w (w1.setCell ⟨b, 0, none⟩ (.slice (some ⟨g, p, none⟩) (r.length - n) (cap - n))) :=
          RqStep.next ⟨hf, hv⟩ ⟨_, h1.put0 hsl (fun k hk => hk), (Fp.refl (fun k => k = b) w1).setCell (p := ⟨b, 0, none⟩) (.inl rfl) _, fun k hk => hk⟩
        have HF := Lib.hid hfin
        have hlc2 : r.length ≤ cap := hlc
        have hnc : n ≤ cap := by omega
        clear hlc2
        clear hfin h1 hf hv hcm hsl hcell hg
        go_wp2
        go_ret
        exact ⟨rfl, HF.out⟩
end Go.Proofs.Ytidkihadlhkbkaa
