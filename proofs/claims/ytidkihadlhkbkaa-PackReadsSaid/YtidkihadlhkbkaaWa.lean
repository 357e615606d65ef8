/- The writer of package pack: contracts over plain lists. -/
import Derived.Test.YtidkihadlhkbkaaWm
namespace Go.Proofs.Ytidkihadlhkbkaa
open Go.RowKit Pm

abbrev TW : TypeId := 28

def wNum (l : Bs) (bad : Bool) (n : Int) : Bs × Bool := if n < 0 ∨ (M : Int) < n then (l, true) else (l ++ enc n.toNat, bad)

set_option maxHeartbeats 1000000 in
theorem Num_bad (lo b : Nat) (v : Value) (l : Bs) (bad : Bool) (n : Int) (w : World) (h : Wr TW lo b v l bad w) (hn : n < 0 ∨ (M : Int) < n) :
    Calls Try.prog 12 #[.pointer (some ⟨b, 0, none⟩), .int .i64 n] w fun e w' => e = .returned (.tuple #[]) ∧ WrStep TW lo b v l true w w' := by
  unfold M at hn
  have hb := h.blk
  have c1 := h.cell1
  have f1 : w.frozen? ⟨b, 1, none⟩ = false := by simp [World.frozen?, hb]
  have hfin : WrStep TW lo b v l true w (w.setCell ⟨b, 1, none⟩ (.bool true)) := by
    refine ⟨v, ⟨h.low, by simp [World.setCell, Array.getElem?_modify, hb], ?_, h.apart⟩, (Fp.refl _ w).setCell (p := ⟨b, 1, none⟩) (.inl (.inl rfl)) _, fun _ h => .inl h⟩
    exact ((Fp.refl (fun k => k = b) w).setCell (p := ⟨b, 1, none⟩) (.inl rfl) (.bool true)).owns h.own (fun k hk e => h.apart (by rw [← e]; exact hk))
  have HF := Lib.hid hfin; clear hfin h
  rcases hn with hn | hn
  · go_enter Try.func12, Try.ntmps12
    go_wp2
    refine bodyPost_ret (results_none rfl _ _ _) rfl ?_
    exact ⟨rfl, HF.out⟩
  · have h0 : ¬ n < 0 := by omega
    go_enter Try.func12, Try.ntmps12
    go_wp2
    refine bodyPost_ret (results_none rfl _ _ _) rfl ?_
    exact ⟨rfl, HF.out⟩

theorem shr7 (n k : Nat) : ((n : Int) / 2 ^ (7 * k)) = ((n / 128 ^ k : Nat) : Int) := by
  rw [Int.natCast_ediv, Int.natCast_pow, Int.pow_mul]; rfl

theorem step7 (n k : Nat) : n / 128 ^ (k + 1) = n / 128 ^ k / 128 := by rw [Nat.pow_succ, Nat.div_div_eq_div_mul]

theorem step_of {T : TypeId} {lo b : Nat} {v v1 : Value} {l : Bs} {bad : Bool} {w w1 w2 : World} (h : Fp (own2 b v) w w1 ∧ ∀ k, v1.ownBlock = some k → v.ownBlock = some k ∨ w.heap.size ≤ k)
    (g : WrStep T lo b v1 l bad w1 w2) : WrStep T lo b v l bad w w2 := by
  obtain ⟨v2, g1, g2, g3⟩ := g
  refine ⟨v2, g1, h.1.trans g2 (own2_next h.2), fun k hk => ?_⟩
  rcases g3 k hk with e | e
  · exact h.2 k e
  · right; have := h.1.size; omega

set_option maxHeartbeats 2000000 in
theorem Num_ok (lo b : Nat) (v : Value) (l : Bs) (bad : Bool) (n : Nat) (w : World) (h : Wr TW lo b v l bad w) (hn : n ≤ M) (hl : l.length ≤ 50000000) :
    Calls Try.prog 12 #[.pointer (some ⟨b, 0, none⟩), .int .i64 n] w fun e w' => e = .returned (.tuple #[]) ∧ WrStep TW lo b v (l ++ enc n) bad w w' := by
  have hn' : (n : Int) ≤ 281474976710656 := by unfold M at hn; omega
  have hlow := h.low
  have hlt := h.lt
  have HN := Lib.hid hn; clear hn
  go_enter Try.func12, Try.ntmps12
  go_wp2_with fail
  go_loopw [4, 5] (fun s _ wr => ∃ k : Nat, k ≤ 6 ∧ s = .int .i64 (7 * (k : Int)) ∧ WrStep TW lo b v (l ++ hi (n / 128 ^ (k + 1))) bad w wr) (fun s _ _ => (intOf s).toNat)
  case atStart =>
    refine ⟨6, Nat.le_refl _, rfl, ?_⟩
    rw [Nat.div_eq_of_lt (by have := HN.out; unfold M at this; omega), hi_zero, List.append_nil]
    exact WrStep.refl h
  case round =>
    obtain ⟨k, hk, rfl, v1, h1, hf, hfr⟩ := hrel
    have hsz := hf.size
    have hhl := hi_len 7 (n / 128 ^ (k + 1)) (by have := HN.out; unfold M at this; exact Nat.lt_of_le_of_lt (Nat.div_le_self _ _) (by omega))
    rcases k with _ | k
    · generalize hL : l ++ hi (n / 128 ^ (0 + 1)) = L at h1
      have hLl : L.length ≤ 60000000 := by rw [← hL, List.length_append]; omega
      have HL : Hid (l ++ enc n = L ++ [dg (n % 128)]) := by
        rw [← hL, List.append_assoc]; unfold enc; rw [Nat.zero_add, Nat.pow_one]; exact rfl
      clear hL
      have happ := app_byte wr lo _ L (n % 128) 26 (by omega) h1.own (by omega) (by omega)
      have c0 := h1.cell0
      obtain ⟨ao, m, cap, rfl⟩ := h1.shape
      have H1 := Lib.hid (And.intro h1 (And.intro hf hfr)); clear h1 hf hfr
      have HA := Lib.hid happ; clear happ
      go_wp2_with (at_builtin; go_must (refine wpList_app rfl _ _ _ _ rfl _ _ rfl rfl _ HA.out ?_))
      intro v' w2 hR
      obtain ⟨hb2, hW⟩ := H1.out.1.put (x := [dg (n % 128)]) ((Fp.refl Non wr).alloc _) hR
      have d0 : w2.cell? ⟨b, 0, none⟩ = some (.slice ao m cap) := by simp [World.cell?, hb2]
      have f0 : w2.frozen? ⟨b, 0, none⟩ = false := by simp [World.frozen?, hb2]
      obtain ⟨ao', m', cap', rfl⟩ : ∃ ao n cap, v' = .slice ao n cap := by
        rcases hR.own.2 with ⟨hv, _⟩ | ⟨g, cap, cur, hv, _⟩
        · exact ⟨_, _, _, hv⟩
        · exact ⟨_, _, _, hv⟩
      have HW := Lib.hid (And.intro H1.out.2 hW); clear hW hR hb2 H1 HA
      go_wp2
      go_end0
      exact ⟨rfl, by rw [HL.out]; exact step_of HW.out.1 HW.out.2⟩
    · generalize hq : n / 128 ^ (k + 1) = q at hhl
      have hq' : (n : Int) / 2 ^ (7 * (k + 1)) = (q : Int) := by rw [shr7, hq]
      have hqn : q ≤ n := by rw [← hq]; exact Nat.div_le_self _ _
      have hL : hi (n / 128 ^ (k + 1 + 1)) = hi (q / 128) := by rw [step7, hq]
      rw [hL] at h1
      have HQ := Lib.hid hq; clear hq hL
      have c0 := h1.cell0
      obtain ⟨ao, m, cap, rfl⟩ := h1.shape
      have HS : Hid (∀ wr', WrStep TW lo b v (l ++ hi q) bad w wr' → WrStep TW lo b v (l ++ hi (n / 128 ^ (k + 1))) bad w wr') := fun _ h => by rw [HQ.out]; exact h
      by_cases hpos : 0 < q
      · have hi1 : hi q = hi (q / 128) ++ [dg (128 + q % 128)] := hi_pos q hpos
        generalize hL : l ++ hi (q / 128) = L at h1
        have hLl : L.length ≤ 60000000 := by rw [← hL, List.length_append]; have h8 := hi_mono (q / 128) q (by omega); have h9 := hi_len 7 q (by have := HN.out; unfold M at this; omega); omega
        have HL : Hid (l ++ hi q = L ++ [dg (128 + q % 128)]) := by
          rw [← hL, List.append_assoc, hi1]; exact rfl
        clear hL hi1
        have happ := app_byte wr lo _ L (128 + q % 128) 26 (by omega) h1.own (by omega) (by omega)
        have H1 := Lib.hid (And.intro h1 (And.intro hf hfr)); clear h1 hf hfr
        have HA := Lib.hid happ; clear happ
        go_wp2_with (at_builtin; go_must (refine wpList_app rfl _ _ _ _ rfl _ _ rfl rfl _ HA.out ?_))
        intro v' w2 hR
        obtain ⟨hb2, hW⟩ := H1.out.1.put (x := [dg (128 + q % 128)]) ((Fp.refl Non wr).alloc _) hR
        have d0 : w2.cell? ⟨b, 0, none⟩ = some (.slice ao m cap) := by simp [World.cell?, hb2]
        have f0 : w2.frozen? ⟨b, 0, none⟩ = false := by simp [World.frozen?, hb2]
        obtain ⟨ao', m', cap', rfl⟩ : ∃ ao n cap, v' = .slice ao n cap := by
          rcases hR.own.2 with ⟨hv, _⟩ | ⟨g, cap, cur, hv, _⟩
          · exact ⟨_, _, _, hv⟩
          · exact ⟨_, _, _, hv⟩
        have HW := Lib.hid (And.intro H1.out.2 hW); clear hW hR hb2 H1 HA
        go_wp2
        go_roundw
        case rel => exact ⟨k, by omega, by congr 1; omega, HS.out _ (by rw [HL.out]; exact step_of HW.out.1 HW.out.2)⟩
        case measure => simp [intOf]; omega
      · have h0 : q = 0 := by omega
        subst h0
        have H1 := Lib.hid (And.intro h1 (And.intro hf hfr)); clear h1 hf hfr
        go_wp2
        go_roundw
        case rel => exact ⟨k, by omega, by congr 1; omega, HS.out _ (by have h := H1.out; rw [Nat.zero_div, hi_zero] at h; rw [hi_zero]; exact ⟨_, h.1, h.2.1, h.2.2⟩)⟩
        case measure => simp [intOf]; omega

theorem Num_c (lo b : Nat) (v : Value) (l : Bs) (bad : Bool) (n : Int) (w : World) (h : Wr TW lo b v l bad w) (hl : l.length ≤ 50000000) :
    Calls Try.prog 12 #[.pointer (some ⟨b, 0, none⟩), .int .i64 n] w fun e w' => e = .returned (.tuple #[]) ∧ WrStep TW lo b v (wNum l bad n).1 (wNum l bad n).2 w w' := by
  unfold wNum
  by_cases hn : n < 0 ∨ (M : Int) < n
  · rw [if_pos hn]; exact Num_bad lo b v l bad n w h hn
  · rw [if_neg hn]
    obtain ⟨k, rfl⟩ := Int.eq_ofNat_of_zero_le (show 0 ≤ n by omega)
    exact Num_ok lo b v l bad k w h (by omega) hl

set_option maxHeartbeats 1000000 in
theorem Text_c (lo b : Nat) (v : Value) (l s : Bs) (bad : Bool) (w : World) (h : Wr TW lo b v l bad w) (hl : l.length + s.length ≤ 50000000) :
    Calls Try.prog 14 #[.pointer (some ⟨b, 0, none⟩), .string (B s)] w fun e w' => e = .returned (.tuple #[]) ∧ WrStep TW lo b v (l ++ encT s) bad w w' := by
  have hlow := h.low
  have hlt := h.lt
  go_enter Try.func14, Try.ntmps14
  go_wp2_with fail
  refine (Num_ok lo b v l bad s.length w h (by unfold M; omega) (by omega)).mono ?_
  rintro e w1 ⟨rfl, v1, h1, hf, hfr⟩
  have hsz := hf.size
  have hen := enc_len s.length (by unfold M; omega)
  generalize hL : l ++ enc s.length = L at h1
  have hLl : L.length + s.length ≤ 60000000 := by rw [← hL, List.length_append]; omega
  have HL : Hid (l ++ encT s = L ++ s) := by rw [← hL, List.append_assoc]; exact rfl
  clear hL hen
  have happ := app_text w1 lo _ L s 26 h1.own (by omega) (by omega)
  have c0 := h1.cell0
  obtain ⟨ao, m, cap, rfl⟩ := h1.shape
  have H1 := Lib.hid (And.intro h1 (And.intro hf hfr)); clear h1 hf hfr h
  have HA := Lib.hid happ; clear happ
  go_wp2_with (at_builtin; go_must (refine wpList_app rfl _ _ _ _ rfl _ _ rfl rfl _ HA.out ?_))
  intro v' w2 hR
  obtain ⟨hb2, hW⟩ := H1.out.1.put (x := s) (Fp.refl Non w1) hR
  have d0 : w2.cell? ⟨b, 0, none⟩ = some (.slice ao m cap) := by simp [World.cell?, hb2]
  have f0 : w2.frozen? ⟨b, 0, none⟩ = false := by simp [World.frozen?, hb2]
  obtain ⟨ao', m', cap', rfl⟩ : ∃ ao n cap, v' = .slice ao n cap := by
    rcases hR.own.2 with ⟨hv, _⟩ | ⟨g, cap, cur, hv, _⟩
    · exact ⟨_, _, _, hv⟩
    · exact ⟨_, _, _, hv⟩
  have HW := Lib.hid (And.intro H1.out.2 hW); clear hW hR hb2 H1 HA
  go_wp2
  go_end0
  exact ⟨rfl, by rw [HL.out]; exact step_of HW.out.1 HW.out.2⟩
end Go.Proofs.Ytidkihadlhkbkaa
