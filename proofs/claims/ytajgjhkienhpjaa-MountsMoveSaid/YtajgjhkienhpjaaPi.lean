/- path.In and path.Numbered. -/
import Derived.Test.YtajgjhkienhpjaaPa
namespace Go.Proofs.Ytajgjhkienhpjaa
set_option maxRecDepth 20000
open Go.RowKit Pm

theorem prefix_take (a b : List Bs) : decide ((b.map B) = (a.map B).take b.length) = b.isPrefixOf a := by
  rw [Bool.eq_iff_iff, List.isPrefixOf_iff_prefix]
  simp only [decide_eq_true_eq]
  rw [← List.map_take, List.map_inj_right (fun x y h => B_inj h), List.prefix_iff_eq_take]

theorem Equal_c (g1 c1 g2 c2 : Nat) (b a : List Bs) (w : World) (h1 : Lies w g1 c1 b) (h2 : Lies w g2 c2 a) (h : b.length ≤ a.length) :
    Calls Try.prog 43 #[.slice (some ⟨g1, 0, none⟩) b.length c1, .slice (some ⟨g2, 0, none⟩) b.length c2] w fun e w' => e = .returned (.bool (b.isPrefixOf a)) ∧ Dr w w' := by
  have hm1 := h1.most; have hr1 := h1.room; unfold maxLen at hm1
  refine (Try.slices_Equal_string g1 0 b.length c1 g2 0 b.length c2 (b.map B) (a.map B) w (by simp) (by simpa using h) (by omega) (by omega) ?_ ?_).mono ?_
  · intro j hj
    simp at hj
    rw [Nat.zero_add, h1.cell j hj]; simp [hj, strV]
  · intro j hj
    simp at hj
    rw [Nat.zero_add, h2.cell j hj]; simp [hj, strV]
  · rintro e w' ⟨rfl, q, rfl⟩
    refine ⟨?_, Dr.of _ _⟩
    rw [← prefix_take a b, show List.take b.length (b.map B) = b.map B from List.take_of_length_le (by simp)]

set_option maxHeartbeats 1000000 in
theorem In_c (l q : Bs) (w : World) (hl : l.length ≤ 4611686018427387904) (hq : q.length ≤ 4611686018427387904) :
    Calls Try.prog 36 #[.string (B l), .string (B q)] w fun e w' => e = .returned (.bool (inB l q)) ∧ Below w.heap.size w w' := by
  cases hs : split l with
  | none =>
    have hp : inB l q = false := by unfold inB; rw [hs]
    rw [hp]
    have HS := Lib.hid hs; clear hs hp
    go_enter Try.func36, Try.ntmps36
    go_wp2_with fail
    refine (Split_c l w hl).mono ?_
    rintro e w1 ⟨v, rfl, hown, hb⟩
    rw [HS.out]
    go_wp2
    go_ret
    exact ⟨rfl, hb⟩
  | some a =>
    cases ht : split q with
    | none =>
      have hp : inB l q = false := by unfold inB; rw [hs, ht]
      rw [hp]
      have HS := Lib.hid hs; clear hs hp
      have HT := Lib.hid ht; clear ht
      go_enter Try.func36, Try.ntmps36
      go_wp2_with fail
      refine (Split_c l w hl).mono ?_
      rintro e w1 ⟨v, rfl, hown, hb⟩
      rw [HS.out]
      go_wp2_with fail
      refine (Split_c q w1 hq).mono ?_
      rintro e w2 ⟨v2, rfl, hown2, hb2⟩
      rw [HT.out]
      have hb2' := hb.trans (hb2.mono hb.size)
      clear hb2
      go_wp2
      go_ret
      exact ⟨rfl, hb2'⟩
    | some b =>
      have hp : inB l q = b.isPrefixOf a := by unfold inB; rw [hs, ht]
      rw [hp]
      have hP := ((split_iff _ _).1 hs).1
      have hQ := ((split_iff _ _).1 ht).1
      have h6 := hP.1
      have h6' := hQ.1
      have HS := Lib.hid hs; clear hs hp hP hQ
      have HT := Lib.hid ht; clear ht
      go_enter Try.func36, Try.ntmps36
      go_wp2_with fail
      refine (Split_c l w hl).mono ?_
      rintro e w1 ⟨v, rfl, hown, hb⟩
      rw [HS.out] at hown ⊢
      have hown : Own w.heap.size w1 v a := hown
      go_wp2_with fail
      refine (Split_c q w1 hq).mono ?_
      rintro e w2 ⟨v2, rfl, hown2, hb2⟩
      rw [HT.out] at hown2 ⊢
      have hown2 : Own w1.heap.size w2 v2 b := hown2
      have hb2' := hb.trans (hb2.mono hb.size)
      by_cases hlt : a.length < b.length
      · obtain ⟨ao, cap, hv⟩ := hown.shape
        obtain ⟨ao2, cap2, hv2⟩ := hown2.shape
        have hpre : b.isPrefixOf a = false := by
          cases hh : b.isPrefixOf a with
          | false => rfl
          | true => rw [List.isPrefixOf_iff_prefix] at hh; have := hh.length_le; omega
        have HP := Lib.hid hpre; clear hpre
        subst hv hv2
        clear hown hown2 hb2
        go_wp2
        go_ret
        exact ⟨ret_bool HP.out.symm, hb2'⟩
      · by_cases hb0 : b = []
        · subst hb0
          obtain rfl := hown2.2 rfl
          obtain ⟨ao, cap, rfl⟩ := hown.shape
          clear hown hown2 hb2
          go_wp2_with fail
          all_goals (
            refine (Try.slices_Equal_string_empty _ _ _ 0 _ w2 (by omega)).mono ?_
            rintro e w3 ⟨rfl, rfl⟩
            go_wp2
            go_ret
            exact ⟨ret_bool rfl, hb2'⟩)
        · obtain ⟨p, r, rfl⟩ : ∃ p r, b = p :: r := by cases b with | nil => exact absurd rfl hb0 | cons p r => exact ⟨p, r, rfl⟩
          obtain ⟨p', r', rfl⟩ : ∃ p r, a = p :: r := by cases a with | nil => simp at hlt | cons p r => exact ⟨p, r, rfl⟩
          obtain ⟨g, c, hv, hg, hli⟩ := hown.lies
          obtain ⟨g2, c2, hv2, hg2, hli2⟩ := hown2.lies
          have hE := Lib.hid (Equal_c g2 c2 g c (p :: r) (p' :: r') w2 hli2 (hli.below hb2 hli.lt) (by omega))
          have hc1 := hli.room
          have hm1 := hli.most
          unfold maxLen at hm1
          subst hv hv2
          clear hown hown2 hb2 hli hli2
          simp only [List.length_cons] at h6 h6' hlt hc1
          go_wp2_with fail
          refine hE.out.mono ?_
          rintro e w3 ⟨rfl, hd⟩
          have hb3 := hb2'.trans (hd.below _)
          clear hd
          go_wp2
          go_ret
          exact ⟨rfl, hb3⟩

/-- The four digits, and strconv's. -/
theorem four (n : Nat) (h : n ≤ 9999) : (Lib.itoa n).length ≤ 4 ∧ ([48, 48, 48, 48].drop (Lib.itoa n).length).take (4 - (Lib.itoa n).length) ++ Lib.itoa n = dig n := by
  have e : Lib.itoa n = Lib.decDigits n := by unfold Lib.itoa; rw [if_neg (by omega)]; rfl
  rw [e]
  by_cases h1 : n < 10
  · have d : Lib.decDigits n = [UInt8.ofNat (48 + n)] := by rw [Lib.decDigits, dif_pos h1]
    rw [d]; refine ⟨by simp, ?_⟩
    simp [dig, show n / 1000 = 0 by omega, show n / 100 = 0 by omega, show n / 10 = 0 by omega, Nat.mod_eq_of_lt h1]
  · by_cases h2 : n < 100
    · have d : Lib.decDigits n = [UInt8.ofNat (48 + n / 10), UInt8.ofNat (48 + n % 10)] := by
        rw [Lib.decDigits, dif_neg h1, Lib.decDigits, dif_pos (by omega)]; rfl
      rw [d]; refine ⟨by simp, ?_⟩
      simp [dig, show n / 1000 = 0 by omega, show n / 100 = 0 by omega, show n / 10 % 10 = n / 10 by omega]
    · by_cases h3 : n < 1000
      · have d : Lib.decDigits n = [UInt8.ofNat (48 + n / 100), UInt8.ofNat (48 + n / 10 % 10), UInt8.ofNat (48 + n % 10)] := by
          rw [Lib.decDigits, dif_neg h1, Lib.decDigits, dif_neg (by omega), Lib.decDigits, dif_pos (by omega), Nat.div_div_eq_div_mul]; rfl
        rw [d]; refine ⟨by simp, ?_⟩
        simp [dig, show n / 1000 = 0 by omega, show n / 100 % 10 = n / 100 by omega]
      · have d : Lib.decDigits n = [UInt8.ofNat (48 + n / 1000), UInt8.ofNat (48 + n / 100 % 10), UInt8.ofNat (48 + n / 10 % 10), UInt8.ofNat (48 + n % 10)] := by
          rw [Lib.decDigits, dif_neg h1, Lib.decDigits, dif_neg (by omega), Lib.decDigits, dif_neg (by omega), Lib.decDigits, dif_pos (by omega), show n / 10 / 10 / 10 = n / 1000 by omega, show n / 10 / 10 = n / 100 by omega]; rfl
        rw [d]; refine ⟨by simp, ?_⟩
        simp [dig]

end Go.Proofs.Ytajgjhkienhpjaa
