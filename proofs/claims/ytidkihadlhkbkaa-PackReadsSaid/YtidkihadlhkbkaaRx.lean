/- The document's own writer, on: contracts over plain lists. -/
import Derived.Test.YtidkihadlhkbkaaRw
namespace Go.Proofs.Ytidkihadlhkbkaa
open Go.RowKit Pm

theorem rNum_c (lo b : Nat) (v : Value) (l : Bs) (bad : Bool) (n : Int) (w : World) (h : Wr TR lo b v l bad w) (hl : l.length ≤ 50000000) :
    Calls Try.prog 13 #[.pointer (some ⟨b, 0, none⟩), .int .i64 n] w fun e w' => e = .returned (.tuple #[]) ∧ WrStep TR lo b v (wNum l bad n).1 (wNum l bad n).2 w w' := by
  unfold wNum
  by_cases hn : n < 0 ∨ (M : Int) < n
  · rw [if_pos hn]; exact rNum_bad lo b v l bad n w h hn
  · rw [if_neg hn]
    obtain ⟨k, rfl⟩ := Int.eq_ofNat_of_zero_le (show 0 ≤ n by omega)
    exact rNum_ok lo b v l bad k w h (by omega) hl

set_option maxHeartbeats 1000000 in
theorem rText_c (lo b : Nat) (v : Value) (l s : Bs) (bad : Bool) (w : World) (h : Wr TR lo b v l bad w) (hl : l.length + s.length ≤ 50000000) :
    Calls Try.prog 15 #[.pointer (some ⟨b, 0, none⟩), .string (B s)] w fun e w' => e = .returned (.tuple #[]) ∧ WrStep TR lo b v (l ++ encT s) bad w w' := by
  have hlow := h.low
  have hlt := h.lt
  go_enter Try.func15, Try.ntmps15
  go_wp2_with fail
  refine (rNum_ok lo b v l bad s.length w h (by unfold M; omega) (by omega)).mono ?_
  rintro e w1 ⟨rfl, v1, h1, hf, hfr⟩
  have hsz := hf.size
  have hen := enc_len s.length (by unfold M; omega)
  generalize hL : l ++ enc s.length = L at h1
  have hLl : L.length + s.length ≤ 60000000 := by rw [← hL, List.length_append]; omega
  have HL : Hid (l ++ encT s = L ++ s) := by rw [← hL, List.append_assoc]; exact rfl
  clear hL hen
  have happ := app_text w1 lo _ L s 26 h1.own (by omega) (by omega)
  have c0 := h1.cell0
  obtain ⟨ao, m, cap, rfl⟩ := h1.shape
  have H1 := Lib.hid (And.intro h1 (And.intro hf hfr)); clear h1 hf hfr h
  have HA := Lib.hid happ; clear happ
  go_wp2_with (at_builtin; go_must (refine wpList_app rfl _ _ _ _ rfl _ _ rfl rfl _ HA.out ?_))
  intro v' w2 hR
  obtain ⟨hb2, hW⟩ := H1.out.1.put (x := s) (Fp.refl Non w1) hR
  have d0 : w2.cell? ⟨b, 0, none⟩ = some (.slice ao m cap) := by simp [World.cell?, hb2]
  have f0 : w2.frozen? ⟨b, 0, none⟩ = false := by simp [World.frozen?, hb2]
  obtain ⟨ao', m', cap', rfl⟩ : ∃ ao n cap, v' = .slice ao n cap := by
    rcases hR.own.2 with ⟨hv, _⟩ | ⟨g, cap, cur, hv, _⟩
    · exact ⟨_, _, _, hv⟩
    · exact ⟨_, _, _, hv⟩
  have HW := Lib.hid (And.intro H1.out.2 hW); clear hW hR hb2 H1 HA
  go_wp2
  go_end0
  exact ⟨rfl, by rw [HL.out]; exact step_of HW.out.1 HW.out.2⟩
set_option maxHeartbeats 1000000 in
theorem rTexts_c (lo b : Nat) (v : Value) (l : Bs) (bad : Bool) (vs : Value) (ps : List Bs) (w : World) (h : Wr TR lo b v l bad w) (hs : Ss w vs ps) (hd : 0 < ps.length → ∀ k, vs.ownBlock = some k → k < lo) (hl : l.length + 8 * (ps.length + szs ps) ≤ 40000000) :
    Calls Try.prog 17 #[.pointer (some ⟨b, 0, none⟩), vs] w fun e w' => e = .returned (.tuple #[]) ∧ WrStep TR lo b v (l ++ encTs ps) bad w w' := by
  have hall := h.all
  have hen := enc_len ps.length (by unfold M; omega)
  obtain ⟨ao, cap, rfl, h1, h2, h3⟩ := hs.ex
  unfold maxLen at h2
  have HD := Lib.hid hd; clear hd
  go_enter Try.func17, Try.ntmps17
  go_wp2_with fail
  refine (rNum_ok lo b v l bad ps.length w h (by unfold M; omega) (by omega)).mono ?_
  rintro e w1 ⟨rfl, hst⟩
  have HS := Lib.hid hs; clear hs
  have HL : Hid (encTs ps = enc ps.length ++ encL ps) := rfl
  go_wp2_with fail
  go_loopw [4] (fun i wr => ∃ k : Nat, k ≤ ps.length ∧ i = .int .i64 k ∧ WrStep TR lo b v (l ++ enc ps.length ++ encL (ps.take k)) bad w wr) (fun i _ => ps.length - (intOf i).toNat)
  case atStart => exact ⟨0, Nat.zero_le _, rfl, by simpa [encL] using hst⟩
  case round =>
    obtain ⟨k, hk, rfl, v1, h1', hf, hfr⟩ := hrel
    by_cases hlt : k < ps.length
    · have hks := HS.out.keep hf (fun h0 j hj hj2 => by have := (hall j hj2).1; have := HD.out h0 j hj; omega)
      obtain ⟨ao2, cap2, e, _, _, h4⟩ := hks.ex
      injection e with e1 _ e3
      subst e1 e3
      rcases h4 with h0 | ⟨g, o, rfl, hg, hc⟩
      · omega
      · have hck := hc k hlt
        have hst' := encL_take_succ ps k hlt
        have hle := encL_len (ps.take k) (by have := szs_take_le ps k; unfold M; omega)
        have hle2 := szs_take_succ ps k hlt
        have hle3 := szs_take_le ps (k + 1)
        have hle4 : (ps.take k).length = k := by rw [List.length_take]; omega
        generalize hq : ps[k] = q at hck hst' hle2
        generalize hL : l ++ enc ps.length ++ encL (ps.take k) = L at h1'
        have hLl : L.length + q.length ≤ 50000000 := by rw [← hL]; simp only [List.length_append]; omega
        have HL' := Lib.hid (show l ++ enc ps.length ++ encL (ps.take (k + 1)) = L ++ encT q by rw [hst', ← hL]; simp only [List.append_assoc])
        clear hc h3 hst hst' hle hle2 hle3 hle4 hq hL hks
        have HF := Lib.hid (And.intro hf hfr); clear hf hfr
        go_wp2_with fail
        refine (rText_c lo b v1 L q bad wr h1' hLl).mono ?_
        rintro e w2 ⟨rfl, hw2⟩
        go_wp2
        go_roundw
        case rel => exact ⟨k + 1, by omega, by go_num, by rw [HL'.out]; exact step_of HF.out hw2⟩
        case measure => simp [intOf]; omega
    · have hke : k = ps.length := by omega
      subst hke
      rw [List.take_length] at h1'
      have HF := Lib.hid (And.intro h1' (And.intro hf hfr)); clear h1' hf hfr hst
      go_wp2
      go_end0
      exact ⟨rfl, by rw [HL.out, ← List.append_assoc]; exact ⟨_, HF.out.1, HF.out.2.1, HF.out.2.2⟩⟩


theorem rBytes_c (lo b : Nat) (v : Value) (l : Bs) (bad : Bool) (w : World) (h : Wr TR lo b v l bad w) (hl : l.length ≤ 50000000) :
    Calls Try.prog 19 #[.pointer (some ⟨b, 0, none⟩)] w fun e w' => ∃ v', e = .returned (.tuple #[v', .int .i64 (if bad then 1 else 0)]) ∧ Nw w w' v' (if bad then [] else l) := by
  have c0 := h.cell0
  have c1 := h.cell1
  have hS := Sl.of_owns h.own
  clear h
  cases bad with
  | true =>
    have HN := Lib.hid (Nw.nil w); clear hS
    go_enter Try.func19, Try.ntmps19
    go_wp2
    go_ret2
    exact ⟨_, rfl, HN.out⟩
  | false =>
    have happ := app_sl (w.alloc (.cells #[] 5)) w.heap.size _ [] l 26 _ (World.ownsRow_made w #[] 0 (Nat.le_refl _) (Nat.zero_le _) rfl) (hS.keep ((Fp.refl Non w).alloc _) (fun _ _ h => h)) (by simp; omega) (by simp)
    obtain ⟨ao, cap, rfl, h1, h2, h3⟩ := hS.ex
    have HA := Lib.hid happ; clear happ h3 hS
    have c0' : (w.alloc (.cells #[] 5)).cell? ⟨b, 0, none⟩ = some (.slice ao l.length cap) := ((Fp.refl Non w).alloc _).cell c0 (fun h => h)
    go_enter Try.func19, Try.ntmps19
    go_wp2_with (at_builtin; go_must (refine wpList_app rfl _ _ _ _ rfl _ _ rfl rfl _ HA.out ?_))
    intro v' w2 hR
    have hN : Nw w w2 v' l := ⟨by simpa using hR.own, ((Fp.refl Non w).alloc _).grown hR.grown (fun k hk => by simp [Value.ownBlock] at hk; omega)⟩
    have HN := Lib.hid hN; clear hN
    obtain ⟨ao', m', cap', rfl⟩ := hR.shape
    clear hR HA
    go_wp2
    go_ret2
    exact ⟨_, rfl, HN.out⟩
end Go.Proofs.Ytidkihadlhkbkaa
