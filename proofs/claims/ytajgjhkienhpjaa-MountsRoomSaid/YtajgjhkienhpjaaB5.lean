/- MountsRoom: as many prefixes can begin to move as there is room for mounts (gen_b5.py) -/
import Derived.Test.YtajgjhkienhpjaaBo
import Derived.Test.YtajgjhkienhpjaaBt
import Derived.Test.YtajgjhkienhpjaaB3
namespace Go.Proofs.Ytajgjhkienhpjaa
set_option maxRecDepth 20000
set_option linter.unusedVariables false
set_option linter.unusedSimpArgs false
open Go.RowKit Pm

set_option maxHeartbeats 8000000 in
theorem MountsRoom_c (n : Int) (w : World) (hn : 0 ≤ n ∧ n ≤ 255) :
    Calls Try.prog 7 #[.int .u8 n] w fun e w' => e = .returned (.bool true) ∧ Fp Non w w' := by
  obtain ⟨m, rfl⟩ := Int.eq_ofNat_of_zero_le hn.1
  have hm : m ≤ 255 := by omega
  have hsz : ∀ k, k < 32 → SzM (rmL k) := fun k hk => hd_sz _ (rm_szs k hk) (by rw [rmL_len]; omega)
  have HNU := Lib.hid (fun (k : Nat) (hk : k < 50) W => (show Calls Try.prog 19 #[.string (B [112]), .int .i64 (k : Int)] W fun e w' => e = .returned (.tuple #[.string (B (112 :: dig k)), .bool true]) ∧ Gr W w' from by
    have := rNumbered_g [112] (k : Int) W (by decide)
    rw [rm_num k hk] at this; exact this))
  have HB1 := Lib.hid (fun (k : Nat) (hk : k < 31) v W (h : NsM W v (rmL k)) => (show Calls Try.prog 12 #[v, .string (B (rmP k)), .int .i64 1] W fun e w' => BgR W ⟨rmA k, ⟨rmP k, 0, 1, 1⟩, 0⟩ e w' from by
    have := Begin_c v (rmL k) (rmP k) 1 W h (hsz k (by omega)) (by rw [rmP_len]; omega)
    rw [rm_begin k hk] at this; exact this))
  have HB2 := Lib.hid (fun (k : Nat) (hk : k < 50) (h31 : 31 ≤ k) v W (h : NsM W v (rmL 31)) => (show Calls Try.prog 12 #[v, .string (B (rmP k)), .int .i64 1] W fun e w' => BgR W ⟨rmL 31, mt0, 2⟩ e w' from by
    have := Begin_c v (rmL 31) (rmP k) 1 W h (hsz 31 (by omega)) (by rw [rmP_len]; omega)
    rw [rm_full k hk h31] at this; exact this))
  have HFL := Lib.hid (fun (k : Nat) (hk : k < 31) v W (h : NsM W v (rmA k)) => (show Calls Try.prog 13 #[v, .string (B (rmP k)), .int .i64 1, .int .i64 1] W fun e w' => FlR W ⟨rmL (k + 1), 0⟩ e w' from by
    have := Flip_c v (rmA k) (rmP k) 1 1 W h (hd_sz _ (rmA_szs k hk).1 (rmA_szs k hk).2) (by rw [rmP_len]; omega) (by decide)
    rw [rm_flip k hk] at this; exact this))
  have HBK := Lib.hid (fun (k : Nat) (hk : k < 32) (h1 : 1 ≤ k) v W (h : NsM W v (rmL k)) => (show Calls Try.prog 12 #[v, .string (B [47, 112, 48, 48, 48, 48]), .int .i64 0] W fun e w' => ∃ b : Bg, BgR W b e w' ∧ b.e = 0 ∧ b.m.g = 1 ∧ b.m.e = 2 from by
    rw [← rmP0]
    exact (Begin_c v (rmL k) (rmP 0) 0 W h (hsz k hk) (by rw [rmP_len]; omega)).mono (fun e w' hh => ⟨_, hh, rm_back k hk h1⟩)))
  have HSM := Lib.hid (fun va vb W (h1 : NsM W va (rmL 31)) (h2 : NsM W vb (rmL 31)) => (show Calls Try.prog 16 #[va, vb] W fun e w' => e = .returned (.bool true) ∧ Fp Non W w' from by
    have := rSameM_c va vb (rmL 31) (rmL 31) W h1 h2 (by rw [rmL_len]; omega) (by rw [rmL_len]; omega)
    rw [decide_eq_true rfl] at this; exact this))
  have hcat : ∀ k, (ByteArray.mk #[47]) ++ B (112 :: dig k) = B (rmP k) := fun k => lit_app [47] (112 :: dig k)
  have HCAT := Lib.hid hcat
  obtain ⟨N, hN⟩ : ∃ N, N = m % 50 := ⟨_, rfl⟩
  have hNb : N < 50 := by omega
  clear hsz hcat hn
  go_enter Try.func7, Try.ntmps7
  go_wp2_with fail
  refine (head_c _).mono ?_
  rintro e w1 ⟨rfl, hf1⟩
  have F1 := Lib.hid hf1
  clear hf1
  go_wp2_with fail
  have hA : NsM (w1.alloc (.cells #[.string ⟨#[47]⟩, .int .i64 0, .int .i64 1, .int .i64 0] TM)) (.slice (some ⟨w1.heap.size, 0, none⟩) 1 1) (rmL 0) := by
    have hb : BxM (w1.alloc (.cells #[.string ⟨#[47]⟩, .int .i64 0, .int .i64 1, .int .i64 0] TM)) w1.heap.size ⟨[47], 0, 1, 0⟩ := BxM.new w1 ⟨[47], 0, 1, 0⟩
    exact ⟨_, 1, rfl, Nat.le_refl _, by decide, .inr ⟨_, 0, rfl, hb.lt, fun i hi => by
      have hi0 : i = 0 := by simp [rmL] at hi; omega
      subst hi0; exact hb.nd⟩⟩
  have HA := Lib.hid (And.intro hA (F1.out.then (fp_alloc w1 (.cells #[.string ⟨#[47]⟩, .int .i64 0, .int .i64 1, .int .i64 0] TM))))
  clear hA F1
  go_loopw [4, 5] (fun lv i wr => ∃ k : Nat, k ≤ N ∧ i = .int .i64 k ∧ Hid (NsM wr lv (rmL (min k 31)) ∧ Fp Non w wr)) (fun _ i _ => N - (RowKit.intOf i).toNat)
  case atStart => exact ⟨0, Nat.zero_le _, rfl, HA.out⟩
  case round =>
    clear HA
    obtain ⟨k, hk, rfl, hR⟩ := hrel
    rename_i wr _
    have hns := hR.out.1
    obtain ⟨j, hj⟩ : ∃ j, j = min k 31 := ⟨_, rfl⟩
    rw [← hj] at hns
    obtain ⟨a4, c4, rfl⟩ := hns.shape
    have hLL := rmL_len j
    obtain ⟨L, hL⟩ : ∃ L, L = (rmL j).length := ⟨_, rfl⟩
    rw [← hL] at hns hLL
    rw [← hL]
    have HV := Lib.hid (And.intro hns hR.out.2)
    have HJ := Lib.hid (And.intro hj (And.intro hL hLL))
    have hLb : L ≤ 32 := by omega
    clear hns hj hL hR hLL
    by_cases hlt : k < N
    · have q3 : ((k : Int) < (m : Int) % 50) = True := eq_true (by omega)
      have hk50 : k < 50 := by omega
      have HK := Lib.hid (And.intro hlt hk50)
      have hkb : k ≤ 50 := by omega
      clear hlt hk50
      go_wp2_with fail
      refine (HNU.out k HK.out.2 _).mono ?_
      rintro e w2 ⟨rfl, hg⟩
      have K2 := Lib.hid (And.intro (HV.out.1.non hg.fp) (HV.out.2.then hg.fp))
      clear hg HV
      go_wp2_with fail
      rw [show (47 :: 112 :: dig k : Bs) = rmP k from rfl]
      by_cases h31 : k < 31
      · have hjk : j = k := by have := HJ.out.1; omega
        subst hjk
        have H31 := Lib.hid h31
        refine (HB1.out j h31 _ _ K2.out.1).mono ?_
        intro e w3 hR
        obtain ⟨v1, rfl, n1⟩ := hR.ex
        unfold mtV strV
        simp only
        have hfa := fp_alloc w3 (.cells #[.string (B (rmP j)), .int .i64 0, .int .i64 1, .int .i64 1] TM)
        have hbx := BxM.new w3 ⟨rmP j, 0, 1, 1⟩
        have K3 := Lib.hid (Kp.and (Kp.bxM hbx) (Kp.and (Kp.nsM (n1.non hfa)) (Kp.fp ((K2.out.2.then hR.fp).then hfa))))
        have q4 : ((32 : Int) ≤ (L : Int)) = False := eq_false (by have := HJ.out; omega)
        have q5 : (32 ≤ L) = False := eq_false (by have := HJ.out; omega)
        clear hR n1 hfa hbx K2 h31
        go_wp2_with fail
        rw [show (47 :: 112 :: dig j : Bs) = rmP j from rfl]
        refine (HFL.out j H31.out _ _ K3.out.now.2.1).mono ?_
        intro e w4 hR
        obtain ⟨v2, rfl, n2⟩ := hR.ex
        simp only at n2 ⊢
        have K4 := Lib.hid (Kp.and (Kp.nsM n2) (K3.out.later hR.fp))
        obtain ⟨a5, c5, rfl⟩ := n2.shape
        have hL2 := rmL_len (j + 1)
        have q6 : (((rmL (j + 1)).length : Int) == (L : Int) + 1) = true := beq_iff_eq.2 (by have := HJ.out; omega)
        have q7 : (((rmL (j + 1)).length : Int) = (L : Int) + 1) = True := eq_true (by have := HJ.out; omega)
        generalize (rmL (j + 1)).length = L2 at *
        have hbx := K4.out.now.2.1.at
        have x2 : _ = some (Value.int .i64 1) := hbx.2.2.1
        have HL2 := Lib.hid hL2
        clear hR n2 hbx K3 hL2
        go_wp2
        go_roundw
        case rel =>
          refine ⟨j + 1, by have := HK.out; omega, by go_num, ?_, K4.out.now.2.2.2⟩
          rw [Nat.min_eq_left (by have := H31.out; omega)]; exact K4.out.now.1
        case measure => have := HK.out; simp [RowKit.intOf]; omega
      · have hjk : j = 31 := by have := HJ.out.1; omega
        subst hjk
        have hL32 : L = 32 := by have := HJ.out; omega
        subst hL32
        refine (HB2.out k HK.out.2 (by omega) _ _ K2.out.1).mono ?_
        intro e w3 hR
        obtain ⟨v1, rfl, n1⟩ := hR.ex
        unfold mtV strV mt0 B
        simp only
        have hfa := fp_alloc w3 (.cells #[.string ⟨#[]⟩, .int .i64 0, .int .i64 0, .int .i64 0] TM)
        have K3 := Lib.hid (Kp.and (Kp.nsM ((K2.out.1.non hR.fp).non hfa)) (Kp.and (Kp.nsM (n1.non hfa)) (Kp.fp ((K2.out.2.then hR.fp).then hfa))))
        have H31 := Lib.hid h31
        clear hR n1 hfa K2 h31
        go_wp2_with fail
        refine (HSM.out _ _ _ K3.out.now.2.1 K3.out.now.1).mono ?_
        rintro e w4 ⟨rfl, hf⟩
        have K4 := Lib.hid (K3.out.later hf)
        clear hf K3
        go_wp2
        go_roundw
        case rel =>
          refine ⟨k + 1, by have := HK.out; omega, by go_num, ?_, K4.out.now.2.2⟩
          rw [Nat.min_eq_right (by have := H31.out; omega)]; exact K4.out.now.1
        case measure => have := HK.out; simp [RowKit.intOf]; omega
    · have q3 : ((k : Int) < (m : Int) % 50) = False := eq_false (by omega)
      by_cases h0 : k = 0
      · have hL1 : L = 1 := by have := HJ.out; omega
        subst hL1
        clear h0 hlt
        go_wp2
        go_ret
        exact ⟨rfl, HV.out.2⟩
      · have hj1 : 1 ≤ j := by have := HJ.out; omega
        have hj2 : j < 32 := by have := HJ.out; omega
        have q4 : ((L : Int) < 2) = False := eq_false (by have := HJ.out; omega)
        have q5 : (L < 2) = False := eq_false (by have := HJ.out; omega)
        clear h0 hlt
        go_wp2_with fail
        refine (HBK.out j hj2 hj1 _ _ HV.out.1).mono ?_
        rintro e w3 ⟨b, hR, hbe, hbg, hbm⟩
        obtain ⟨v1, rfl, n1⟩ := hR.ex
        unfold mtV strV
        rw [hbe, hbg, hbm]
        have hfa := fp_alloc w3 (.cells #[.string (B b.m.d), .int .i64 1, .int .i64 2, .int .i64 b.m.t] TM)
        have HZ := Lib.hid ((HV.out.2.then hR.fp).then hfa)
        clear hR n1 hfa hbe hbg hbm
        go_wp2
        go_ret
        exact ⟨rfl, HZ.out⟩
end Go.Proofs.Ytajgjhkienhpjaa
