/- signed, front: whose sign a sector is; the record that an area begins with. -/
import Derived.Test.YtankfmlafmjaeaaGreatFc
import Derived.Test.YtankfmlafmjaeaaGreatKy
namespace Go.Proofs.YtankfmlafmjaeaaGreat
set_option maxRecDepth 20000
open Go.RowKit Pm

theorem signed_some {b : Bs} : signed b = (if isZ b = true ∧ b.length = 16 then some 0 else if b = sgn 0 then some 0 else if b = sgn 1 then some 1 else none) := by
  unfold signed
  by_cases h : b = zr 16
  · subst h; rw [if_pos rfl, if_pos ⟨isZ_zr 16, zr_len 16⟩]
  · rw [if_neg h]
    have hn : ¬ (isZ b = true ∧ b.length = 16) := fun ⟨h1, h2⟩ => h (by rw [isZ_eq h1, h2])
    rw [if_neg hn]

/-- What signed answers. -/
def sgv (o : Option Nat) : Value := .tuple #[.int .i64 ((o.getD 0 : Nat) : Int), .bool o.isSome]

set_option maxHeartbeats 2000000 in
theorem signed_c (v : Value) (b : Bs) (w : World) (hv : Sl w v b) (hl : b.length = 16) :
    Calls Tryz.prog 29 #[v] w fun e w' => e = .returned (sgv (signed b)) ∧ Fp Non w w' := by
  have hbl := blank_c v b w hv
  rw [signed_some]
  obtain ⟨ao, cap, hvv, _, _, _⟩ := hv.ex
  have HV := Lib.hid hv
  cases hz : isZ b with
  | true =>
    rw [hz] at hbl
    have hsg : (if (true = true ∧ b.length = 16) then some 0 else if b = sgn 0 then some 0 else if b = sgn 1 then some 1 else none) = some 0 := if_pos ⟨rfl, hl⟩
    rw [hsg]
    unfold sgv
    have HB := Lib.hid hbl
    have HL := Lib.hid hl
    clear hbl hv hsg hz hl
    rw [hvv] at HB ⊢
    go_enter Tryz.func29, Tryz.ntmps29
    go_wp2_with fail
    refine HB.out.mono ?_
    rintro e w1 ⟨rfl, hf⟩
    have HF := Lib.hid hf; clear hf
    go_wp2
    go_ret2
    exact ⟨rfl, HF.out⟩
  | false =>
    rw [hz] at hbl
    have hsg : (if (false = true ∧ b.length = 16) then some 0 else if b = sgn 0 then some 0 else if b = sgn 1 then some 1 else none) = (if b = sgn 0 then some 0 else if b = sgn 1 then some 1 else none) := if_neg (fun h => by cases h.1)
    rw [hsg]
    obtain ⟨r, hr⟩ : ∃ r, r = (if b = sgn 0 then some 0 else if b = sgn 1 then some 1 else none) := ⟨_, rfl⟩
    rw [← hr]
    have HRR := Lib.hid hr
    have HB := Lib.hid hbl
    have HL := Lib.hid hl
    clear hbl hv hsg hz hl hr
    rw [hvv] at HB HV ⊢
    go_enter Tryz.func29, Tryz.ntmps29
    go_wp2_with fail
    refine HB.out.mono ?_
    rintro e w1 ⟨rfl, hf⟩
    have HF := Lib.hid hf; clear hf
    go_wp2_with fail
    go_loopw [7] (fun d wr => ∃ k : Nat, k ≤ 2 ∧ d = .int .i64 k ∧ Hid (Fp Non w wr ∧ ∀ j, j < k → b ≠ sgn j)) (fun d _ => 2 - (RowKit.intOf d).toNat)
    case atStart => exact ⟨0, Nat.zero_le _, rfl, HF.out, fun j hj => absurd hj (Nat.not_lt_zero j)⟩
    case round =>
      obtain ⟨k, hk2, rfl, hR⟩ := hrel
      rename_i wr _
      by_cases hlt : k < 2
      · have hsc := sign_c k hlt wr
        have HS := Lib.hid hsc
        clear hsc
        go_wp2_with fail
        refine HS.out.mono ?_
        rintro e w2 ⟨u, rfl, hN⟩
        have heq := Equal_c _ _ _ _ w2 ((HV.out.keep hR.out.1 (fun _ _ h => h)).keep hN.fp (fun _ _ h => h)) hN.sl
        have HN := Lib.hid hN
        obtain ⟨uao, un, ucap, rfl⟩ := hN.shape3
        have HE := Lib.hid heq
        clear hN heq
        go_wp2_with fail
        refine HE.out.mono ?_
        rintro e w3 ⟨rfl, rfl⟩
        by_cases hb : b = sgn k
        · have hd : decide (b = sgn k) = true := decide_eq_true hb
          rw [hd]
          have hres : (if b = sgn 0 then some 0 else if b = sgn 1 then some 1 else none) = some k := by
            rcases (show k = 0 ∨ k = 1 by omega) with rfl | rfl
            · exact if_pos hb
            · rw [if_neg (hR.out.2 0 (by omega)), if_pos hb]
          have HR := Lib.hid (HRR.out.trans hres)
          clear hres hd hb
          go_wp2
          go_ret2
          rw [HR.out]
          exact ⟨rfl, hR.out.1.then HN.out.fp⟩
        · have hd : decide (b = sgn k) = false := decide_eq_false hb
          rw [hd]
          have hnext : Hid (Fp Non w w3 ∧ ∀ j, j < k + 1 → b ≠ sgn j) := ⟨hR.out.1.then HN.out.fp, fun j hj => by
            rcases (show j < k ∨ j = k by omega) with h | rfl
            · exact hR.out.2 j h
            · exact hb⟩
          clear hd hb
          go_wp2
          go_roundw
          case rel => exact ⟨k + 1, by omega, by go_num, hnext⟩
          case measure => simp [RowKit.intOf]; omega
      · have hke : k = 2 := by omega
        subst hke
        have hres : (if b = sgn 0 then some 0 else if b = sgn 1 then some 1 else none) = (none : Option Nat) := by
          rw [if_neg (hR.out.2 0 (by omega)), if_neg (hR.out.2 1 (by omega))]
        have HR := Lib.hid (HRR.out.trans hres)
        clear hres hlt
        go_wp2
        go_ret2
        rw [HR.out]
        exact ⟨rfl, hR.out.1⟩
end Go.Proofs.YtankfmlafmjaeaaGreat
