/- perform: its steps one behind the other. -/
import Derived.Test.YtankfmlafmjaeaaGreatPf
namespace Go.Proofs.YtankfmlafmjaeaaGreat
set_option maxRecDepth 20000
open Go.RowKit Pm

theorem seq_drop {Fs : List (Dk → Int × Dk)} {k : Nat} (hk : k < Fs.length) (s : Dk) : seqF (Fs.drop k) s = if (Fs[k] s).1 = 0 then seqF (Fs.drop (k + 1)) (Fs[k] s).2 else Fs[k] s := by
  rw [List.drop_eq_getElem_cons hk]; conv => lhs; unfold seqF

structure PfM (lo b g m : Nat) (s : Dk) (w : World) (Fs : List (Dk → Int × Dk)) (k : Nat) (s' : Dk) (wr : World) : Prop where
  d : Dr lo b g m s' wr
  fp : Fp (own3 b g m) w wr
  eq : seqF Fs s = seqF (Fs.drop k) s'
  acts : s'.acts ≤ s.acts + k

set_option maxHeartbeats 2000000 in
theorem perform_c {lo b g m : Nat} {s : Dk} {w : World} (hd : Dr lo b g m s w) (gs : Nat) (fs : List Value) (Fs : List (Dk → Int × Dk)) (hl : fs.length = Fs.length) (hn : fs.length ≤ 100) (ha : s.acts ≤ 990000) (hgs : ¬ own3 b g m gs)
    (hc : ∀ k (h : k < fs.length), w.cell? ⟨gs, k, none⟩ = some fs[k]) (hst : ∀ k (h : k < fs.length), Step b g m w fs[k] (Fs[k]'(by omega))) :
    Calls Tryz.prog 34 #[.slice (some ⟨gs, 0, none⟩) fs.length fs.length] w fun e w' => e = .returned (.int .i64 (seqF Fs s).1) ∧ Dr lo b g m (seqF Fs s).2 w' ∧ Fp (own3 b g m) w w' := by
  have H0 : Hid (PfM lo b g m s w Fs 0 s w) := ⟨hd, Fp.refl _ _, rfl, Nat.le_refl _⟩
  obtain ⟨n, hnn⟩ : ∃ n, n = fs.length := ⟨_, rfl⟩
  have HX := Lib.hid (And.intro hl (And.intro ha (And.intro hgs (And.intro hnn hn))))
  have HC := Lib.hid hc
  have HS := Lib.hid hst
  rw [← hnn]
  have hnb : n ≤ 100 := by omega
  clear hd hn ha hgs hc hst hnn
  go_enter Tryz.func34, Tryz.ntmps34
  go_wp2_with fail
  go_loopw [8] (fun i wr => ∃ k s', k ≤ n ∧ i = .int .i64 (k : Int) ∧ Hid (PfM lo b g m s w Fs k s' wr)) (fun i _ => n - (RowKit.intOf i).toNat)
  case atStart => exact ⟨0, s, Nat.zero_le _, rfl, H0⟩
  case round =>
    obtain ⟨k, s', hk, rfl, hR⟩ := hrel
    rename_i wr _
    by_cases hlt : k < n
    · have hkf : k < fs.length := by rw [← HX.out.2.2.2.1]; exact hlt
      have hkF : k < Fs.length := by rw [← HX.out.1]; exact hkf
      obtain ⟨kk, fi, cap, hv, hen, hcall⟩ := (HS.out k hkf).ex
      have hact := (HS.out k hkf).acts s'
      have hck : wr.cell? ⟨gs, k, none⟩ = some (.func (.func kk) fi cap) := by
        rw [← hv]; exact hR.out.fp.cell (HC.out k hkf) HX.out.2.2.1
      have hcc := hcall lo s' wr hR.out.d hR.out.fp (by have := hR.out.acts; have := HX.out.2.1; omega)
      have hsd := seq_drop hkF s'
      generalize Fs[k] = F at *
      have q1 : ((k : Int) < (n : Int)) = True := eq_true (by omega)
      have HCC := Lib.hid hcc
      have HF := Lib.hid (And.intro hsd hact)
      clear hcc hsd hact hv hcall
      clear hkF hkf
      go_wp2_with fail
      rw [hen (fi ++ cap) wr]
      go_wp2_with fail
      refine HCC.out.mono ?_
      rintro e w2 ⟨rfl, hd2, hf2⟩
      have HD := Lib.hid (And.intro hd2 hf2)
      clear hd2 hf2
      by_cases h0 : (F s').1 = 0
      · have hM : Hid (PfM lo b g m s w Fs (k + 1) (F s').2 w2) := by
          refine ⟨HD.out.1, hR.out.fp.same HD.out.2, ?_, ?_⟩
          · rw [hR.out.eq, HF.out.1, if_pos h0]
          · have := hR.out.acts; have := HF.out.2; omega
        rw [h0]
        clear h0
        go_wp2
        go_roundw
        case rel => exact ⟨k + 1, _, by omega, by go_num, hM⟩
        case measure => simp [RowKit.intOf]; omega
      · have hE : seqF Fs s = F s' := by rw [hR.out.eq, HF.out.1, if_neg h0]
        have hfin : Hid ((seqF Fs s).1 = (F s').1 ∧ Dr lo b g m (seqF Fs s).2 w2 ∧ Fp (own3 b g m) w w2) := by
          rw [hE]; exact ⟨rfl, HD.out.1, hR.out.fp.same HD.out.2⟩
        generalize (F s').1 = x at *
        have q2 : (x = 0) = False := eq_false h0
        have q3 : (x == 0) = false := beq_eq_false_iff_ne.2 h0
        clear h0 hE
        go_wp2
        go_ret
        exact ⟨by rw [hfin.out.1]; rfl, hfin.out.2.1, hfin.out.2.2⟩
    · have hke : k = n := by omega
      subst hke
      have hE : seqF Fs s = (0, s') := by
        rw [hR.out.eq, List.drop_eq_nil_of_le (by rw [← hl, ← HX.out.2.2.2.1]; exact Nat.le_refl _)]; rfl
      have hfin : Hid ((seqF Fs s).1 = 0 ∧ Dr lo b g m (seqF Fs s).2 wr ∧ Fp (own3 b g m) w wr) := by
        rw [hE]; exact ⟨rfl, hR.out.d, hR.out.fp⟩
      have q1 : ((k : Int) < (k : Int)) = False := eq_false (by omega)
      clear hE hlt hk
      go_wp2
      go_ret
      exact ⟨by rw [hfin.out.1]; rfl, hfin.out.2.1, hfin.out.2.2⟩
end Go.Proofs.YtankfmlafmjaeaaGreat
