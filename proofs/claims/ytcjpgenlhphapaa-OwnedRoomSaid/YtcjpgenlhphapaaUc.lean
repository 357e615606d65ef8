/- OwnedRoom: as many ranges as may be can be installed, and no more; one that is there can be installed with a greater epoch still (gen_uc.py) -/
import Derived.Test.YtcjpgenlhphapaaOy
import Derived.Test.YtcjpgenlhphapaaRd
namespace Go.Proofs.Ytcjpgenlhphapaa
set_option maxRecDepth 20000
set_option linter.unusedVariables false
set_option linter.unusedSimpArgs false
open Go.RowKit Pm


set_option maxHeartbeats 8000000 in
theorem lawOwnedRoom_c (nn ep : Int) (w : World) (hnn : 0 ≤ nn ∧ nn ≤ 255) (hep : 0 ≤ ep ∧ ep ≤ 65535) :
    Calls Try.prog 8 #[.int .u8 nn, .int .u16 ep] w fun e w' => e = .returned (.bool true) ∧ Fp Non w w' := by
  obtain ⟨n, rfl⟩ := Int.eq_ofNat_of_zero_le hnn.1
  obtain ⟨m, hm⟩ : ∃ m, m = n % 60 := ⟨_, rfl⟩
  have hmb : m < 60 := by omega
  have h1 := fun (k : Nat) W => rNumbered_g [112] (k : Int) W (by simp)
  have HN := Lib.hid h1
  have HM := Lib.hid hm
  clear h1 hm
  go_enter Try.func8, Try.ntmps8
  go_wp2_with fail
  refine (head_c _).mono ?_
  rintro e w1 ⟨rfl, hf1⟩
  have F1 := Lib.hid hf1
  clear hf1
  go_wp2_with fail
  go_loopw [6, 7] (fun u i wr => ∃ k : Nat, k ≤ m ∧ i = .int .i64 k ∧ Hid (∃ l, NsH wr u l ∧ RmI ep k l ∧ Fp Non w wr)) (fun _ i _ => m - (RowKit.intOf i).toNat)
  case atStart => exact ⟨0, Nat.zero_le _, rfl, [], NsH.nil _, rm_start ep, F1.out⟩
  case round =>
    obtain ⟨k, hk, rfl, hR⟩ := hrel
    rename_i wr _
    by_cases hlt : k < m
    · have q3 : ((k : Int) < (n : Int) % 60) = True := eq_true (by have := HM.out; omega)
      have hk60 : k < 60 := by omega
      obtain ⟨l, hu, hI, hF⟩ := hR.out
      have hl32 : l.length ≤ 32 := hI.rt.len
      have hin := fun W (f : Fp Non wr W) => Install_c u6 l (nm k) ep W (hu.non f) hI.rt.szs (by have := okP_len (nm_ok k hk60); omega)
      have HL := Lib.hid (And.intro hlt (And.intro hI (And.intro hu hF)))
      have HIN := Lib.hid hin
      have hnu := nm_num k hk60
      have HNK := Lib.hid (HN.out k wr)
      rw [hnu] at HNK
      simp only [Option.getD_some, Option.isSome_some] at HNK
      clear hlt hI hu hF hin hnu hl32
      go_wp2_with fail
      refine HNK.out.mono ?_
      rintro e w2 ⟨rfl, hg⟩
      have F2 := Lib.hid hg.fp
      clear hg
      have hpl : ([112] ++ dig k).length = 5 := by simp [dig]
      have q8 : IntKind.i64.wrap ep = ep := by rw [IntKind.wrap_i64]; omega
      by_cases h32 : k < 32
      · obtain ⟨hy, hM⟩ := rm_more HL.out.2.1 hk60 hep h32
        generalize putH l ⟨nm k, ep, 1⟩ = L2 at hy hM
        rw [hy] at HIN
        have HM2 := Lib.hid hM
        have hnm : nm k = 47 :: ([112] ++ dig k) := rfl
        have HIN2 := HIN
        rw [hnm] at HIN2
        clear HIN hnm hy
        generalize [112] ++ dig k = pk at *
        have q5 : ((k : Int) < 32) = True := eq_true (by omega)
        clear hM h32
        go_wp2_with fail
        refine (HIN2.out _ F2.out).mono ?_
        intro e w3 hR3
        obtain ⟨va, rfl, na⟩ := hR3.ex
        have HA := Lib.hid (And.intro na (HL.out.2.2.2.then (F2.out.then hR3.fp)))
        have hkn := HL.out.1
        clear hR3 na
        simp only [Option.isSome_some]
        go_wp2
        go_roundw
        case rel => exact ⟨k + 1, by omega, by go_num, ⟨_, HA.out.1, HM2.out, HA.out.2⟩⟩
        case measure => simp [RowKit.intOf]; omega
      · obtain ⟨hy, hM⟩ := rm_full HL.out.2.1 hk60 h32
        rw [hy] at HIN
        have HM2 := Lib.hid hM
        have hnm : nm k = 47 :: ([112] ++ dig k) := rfl
        have HIN2 := HIN
        rw [hnm] at HIN2
        clear HIN hnm hy
        generalize [112] ++ dig k = pk at *
        have q5 : ((k : Int) < 32) = False := eq_false (by omega)
        clear hM h32
        go_wp2_with fail
        refine (HIN2.out _ F2.out).mono ?_
        intro e w3 hR3
        obtain ⟨va, rfl, na⟩ := hR3.ex
        have HA := Lib.hid (And.intro (HL.out.2.2.1.non (F2.out.then hR3.fp)) (HL.out.2.2.2.then (F2.out.then hR3.fp)))
        have hkn := HL.out.1
        clear hR3 na
        simp only [Option.isSome_none]
        go_wp2
        go_roundw
        case rel => exact ⟨k + 1, by omega, by go_num, ⟨_, HA.out.1, HM2.out, HA.out.2⟩⟩
        case measure => simp [RowKit.intOf]; omega
    · have hke : k = m := by omega
      subst hke
      have q3 : ((k : Int) < (n : Int) % 60) = False := eq_false (by have := HM.out; omega)
      obtain ⟨l, hu, hI, hF⟩ := hR.out
      obtain ⟨ao, cap, rfl⟩ := hu.shape
      obtain ⟨ln, hln⟩ : ∃ q, q = l.length := ⟨_, rfl⟩
      have hl0 : ln = min k 32 := by rw [hln]; exact hI.len
      have HF := Lib.hid hF
      have HI := Lib.hid (And.intro hI (And.intro hu hln))
      rw [← hln]
      clear hlt hI hF hR hu
      by_cases hk0 : k = 0
      · have q5 : ((ln : Int) == 0) = true := beq_iff_eq.2 (by omega)
        have q6 : ((ln : Int) = 0) = True := eq_true (by omega)
        have q7 : (ln = 0) = True := eq_true (by omega)
        clear hk0 hl0 hln
        go_wp2
        go_ret
        exact ⟨rfl, HF.out⟩
      · obtain ⟨⟨b, hb, hbl⟩, hno⟩ := rm_again HI.out.1 hep (by omega)
        have q5 : ((ln : Int) == 0) = false := beq_eq_false_iff_ne.2 (by omega)
        have q6 : ((ln : Int) = 0) = False := eq_false (by omega)
        have q7 : (ln = 0) = False := eq_false (by omega)
        have h1 := fun W (f : Fp Non wr W) => Install_c _ l (nm 0) (ep + 1) W (HI.out.2.1.non f) HI.out.1.rt.szs (by decide)
        have h2 := fun W (f : Fp Non wr W) => Install_c _ l (nm 0) ep W (HI.out.2.1.non f) HI.out.1.rt.szs (by decide)
        rw [hb, nm_0] at h1
        rw [hno, nm_0] at h2
        rw [← hln] at h1 h2 hbl
        have H1 := Lib.hid h1
        have H2 := Lib.hid h2
        have q8 : IntKind.i64.wrap ep = ep := by rw [IntKind.wrap_i64]; omega
        have q9 : IntKind.i64.wrap (ep + 1) = ep + 1 := by rw [IntKind.wrap_i64]; omega
        have HBL := Lib.hid hbl
        clear hk0 hl0 hln h1 h2 hb hno hbl
        go_wp2_with fail
        refine (H1.out _ (Fp.refl _ _)).mono ?_
        intro e w3 hR3
        obtain ⟨va, rfl, na⟩ := hR3.ex
        have F3 := Lib.hid hR3.fp
        obtain ⟨aa, ca, rfl⟩ := na.shape
        simp only [Option.getD_some, Option.isSome_some]
        rw [HBL.out]
        clear hR3 na
        go_wp2_with fail
        refine (H2.out _ F3.out).mono ?_
        intro e w4 hR4
        obtain ⟨vb, rfl, nb⟩ := hR4.ex
        have F4 := Lib.hid (HF.out.then (F3.out.then hR4.fp))
        clear hR4 nb
        simp only [Option.isSome_none]
        go_wp2
        go_ret
        exact ⟨rfl, F4.out⟩
end Go.Proofs.Ytcjpgenlhphapaa
