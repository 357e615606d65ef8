/- The document's own Texts; new readers; ends. -/
import Derived.Test.YtidkihadlhkbkaaQd
namespace Go.Proofs.Ytidkihadlhkbkaa
open Go.RowKit Pm

theorem RqStep.keepOs {lo b : Nat} {v0 : Value} {s : St} {w w' : World} (h : RqStep lo b v0 s w w') {l0 : Nat} {v : Value} {ps : List Bs} (ho : Os l0 w v ps) (hb : b < l0) : Os l0 w' v ps := by
  obtain ⟨_, _, f, _⟩ := h; exact ho.keep f (fun k hk e => by omega)
theorem RqStep.size {lo b : Nat} {v0 : Value} {s : St} {w w' : World} (h : RqStep lo b v0 s w w') : w.heap.size ≤ w'.heap.size := by
  obtain ⟨_, _, f, _⟩ := h; exact f.size

set_option maxHeartbeats 2000000 in
theorem QTexts_c (lo b : Nat) (v0 : Value) (s : St) (w : World) (h : Rq lo b v0 s w) (hl : s.1.length ≤ 1000000) :
    Calls Try.prog 27 #[.pointer (some ⟨b, 0, none⟩)] w fun e w' => ∃ v', e = .returned v' ∧ Os w.heap.size w' v' (rTexts s).1 ∧ RqStep lo b v0 (rTexts s).2 w w' := by
  have hc := QNum_c lo b v0 s M w h hl
  have hblt := h.lt
  have hvlt : ∀ k, v0.ownBlock = some k → k < w.heap.size := by
    intro k hk
    obtain ⟨ao, cap, rfl, _, _, h3⟩ := h.sl.ex
    rcases h3 with ⟨rfl, _⟩ | ⟨g, o, rfl, hg, _⟩
    · cases hk
    · simp [Value.ownBlock] at hk; omega
  have hM := rNum_M s M
  have hle := rNum_le s M
  have her : (rNum s M).2.2 ≠ 0 → (rNum s M).1 = 0 := by
    intro h; unfold rNum at h ⊢
    by_cases h2 : s.2 ≠ 0
    · rw [if_pos h2]
    · rw [if_neg h2] at h ⊢; dsimp only at h ⊢; rw [(nx_err h).2]
  unfold rTexts
  generalize rNum s M = x at hc hM hle her ⊢
  obtain ⟨n, st0⟩ := x
  simp only at hM hle her ⊢
  rw [show ((M : Nat) : Int) = 281474976710656 from rfl] at hc
  have hnM : n ≤ 281474976710656 := hM
  have HC := Lib.hid hc; clear hc
  have HM := Lib.hid (And.intro hM (And.intro hle her)); clear hM hle her
  have HL := Lib.hid hl; clear hl
  have HV := Lib.hid hvlt; clear hvlt
  go_enter Try.func27, Try.ntmps27
  go_wp2_with fail
  refine HC.out.mono ?_
  rintro e w1 ⟨rfl, hst0⟩
  go_wp2_with fail
  go_loopw [4, 5, 6] (fun v i _ wr => ∃ k : Nat, k ≤ n ∧ i = .int .i64 k ∧ ∃ st, RqStep lo b v0 st w wr ∧ ∃ acc, Os w.heap.size wr v acc ∧ Hid (acc.length + st.1.length ≤ st0.1.length + 1) ∧
    Hid (st.2 ≠ 0 ∧ rtx n st0 [] = ([], st) ∨ st.2 = 0 ∧ acc.length + st.1.length ≤ st0.1.length ∧ rtx n st0 [] = rtx (n - k) st acc)) (fun _ i _ _ => n - (intOf i).toNat)
  case atStart =>
    refine ⟨0, Nat.zero_le _, rfl, st0, hst0, [], Os.nil _ _, by simp [Hid], ?_⟩
    by_cases h0 : st0.2 = 0
    · exact .inr ⟨h0, by simp, rfl⟩
    · left; refine ⟨h0, ?_⟩; rw [HM.out.2.2 h0]; rfl
  case round =>
    obtain ⟨k, hk, rfl, st, hsp, acc, hos, hlen, hrt⟩ := hrel
    obtain ⟨v1, h1, hf, hv1⟩ := hsp
    have c1 := h1.cell1
    obtain ⟨ao, m, cap, rfl⟩ := hos.shape
    have hsz := hf.size
    have HO := Lib.hid (And.intro hos (And.intro h1 (And.intro hf hv1))); clear hos h1 hf hv1 hst0
    by_cases he : st.2 ≠ 0
    · have hfin : rtx n st0 [] = ([], st) := hrt.out.elim (fun h => h.2) (fun h => absurd h.1 he)
      have he' : (st.2 == 0) = false := beq_eq_false_iff_ne.2 he
      have HF := Lib.hid hfin; clear hfin he hrt
      by_cases hkn : k < n
      · have r1 : ((k : Int) < (n : Int)) = True := eq_true (by omega)
        have r2 : (k < n) = True := eq_true hkn
        clear hkn hk
        go_wp2
        go_ret
        exact ⟨_, rfl, by rw [HF.out]; exact Os.nil _ _, by rw [HF.out]; exact ⟨_, HO.out.2.1, HO.out.2.2⟩⟩
      · have r1 : ((k : Int) < (n : Int)) = False := eq_false (by omega)
        have r2 : (k < n) = False := eq_false hkn
        clear hkn hk
        go_wp2
        go_ret
        exact ⟨_, rfl, by rw [HF.out]; exact Os.nil _ _, by rw [HF.out]; exact ⟨_, HO.out.2.1, HO.out.2.2⟩⟩
    · have he0 : st.2 = 0 := by omega
      rw [he0] at c1
      have hgo := hrt.out.elim (fun h => absurd h.1 he) (fun h => h.2)
      clear he hrt
      by_cases hkn : k < n
      · have r1 : ((k : Int) < (n : Int)) = True := eq_true (by omega)
        have r2 : (k < n) = True := eq_true hkn
        have HT := Lib.hid (QText_c lo b v1 st wr HO.out.2.1 (by have := HL.out; have := HM.out.2.1; have := hgo.1; omega))
        have hrl := rText_le st
        have hrlt := rText_lt st he0
        have hnk : n - k - 1 + 1 = n - k := by omega
        have hre1 := rtx_err (n - k - 1) st acc
        have hre2 := rtx_ok (n - k - 1) st acc
        rw [hnk, ← hgo.2] at hre1 hre2
        have HE := Lib.hid he0; clear he0
        have HK := Lib.hid (And.intro hkn hk); clear hk
        generalize rText st = y at HT hrl hrlt hre1 hre2
        obtain ⟨t, st'⟩ := y
        simp only at hrl hrlt hre1 hre2
        have HR := Lib.hid (And.intro hgo.1 (And.intro hrl (And.intro hrlt (And.intro hre1 hre2)))); clear hrl hrlt hre1 hre2 hgo
        go_wp2_with fail
        refine HT.out.mono ?_
        rintro e w2 ⟨rfl, hst'⟩
        have ho2 := hst'.keepOs HO.out.1 hblt
        have hs2 := hst'.size
        have happ := app_str w2 w.heap.size _ acc t 32 ho2 (by have := HR.out.1; have := HL.out; have := HM.out.2.1; omega) (by omega)
        have HS := Lib.hid hst'; clear hst' ho2
        have HA := Lib.hid happ; clear happ
        go_wp2_with (at_builtin; go_must (refine wpList_app rfl _ _ _ _ rfl _ _ rfl rfl _ HA.out ?_))
        intro v' w3 hR
        have hstep : RqStep lo b v0 st' w w3 := by
          obtain ⟨v2, q2, qf, qv⟩ := RqStep.next ⟨HO.out.2.2.1, HO.out.2.2.2⟩ HS.out
          have hlt2 : ∀ k, own2 b v2 k → k < w.heap.size := by
            intro k hk
            rcases hk with rfl | hk
            · exact hblt
            · exact HV.out k (qv k hk)
          have hg : Fp (fun j => w.heap.size ≤ j) w2 w3 := ((Fp.refl _ w2).alloc (.cells #[.string (B t)] 9)).grown hR.grown (fun j hj => .inl (HO.out.1.lt j hj).1)
          exact ⟨v2, q2.keep hg (fun k hk h => by have := hlt2 k hk; omega), qf.trans hg (fun k hk => .inr hk), qv⟩
        obtain ⟨ao', m', cap', rfl⟩ := hR.own.shape
        have HW := Lib.hid (And.intro hR.own hstep); clear hR hstep HA
        go_wp2
        go_roundw
        case rel =>
          have hK := HK.out
          obtain ⟨g1, g2, g3, g4, g5⟩ := HR.out
          refine ⟨k + 1, by omega, by go_num, st', HW.out.2, acc ++ [t], HW.out.1, ?_, ?_⟩
          · show _ ≤ _; simp; omega
          · by_cases hx : st'.2 = 0
            · have := g3 hx
              exact .inr ⟨hx, by simp; omega, by rw [g5 (fun h => h hx)]; congr 1⟩
            · exact .inl ⟨hx, g4 hx⟩
        case measure => have := HK.out; simp [intOf]; omega
      · have r1 : ((k : Int) < (n : Int)) = False := eq_false (by omega)
        have r2 : (k < n) = False := eq_false hkn
        have hfin := hgo.2
        rw [show n - k = 0 by omega] at hfin
        have HF := Lib.hid hfin; clear hfin hkn hk hgo he0
        go_wp2
        go_ret
        exact ⟨_, rfl, by rw [HF.out]; exact HO.out.1, by rw [HF.out]; exact ⟨_, HO.out.2.1, HO.out.2.2⟩⟩

theorem QEnd_c (lo b : Nat) (v : Value) (s : St) (w : World) (h : Rq lo b v s w) :
    Calls Try.prog 31 #[.pointer (some ⟨b, 0, none⟩)] w fun e w' => e = .returned (.bool (stEnd s)) ∧ w = w' := by
  have c0 := h.cell0
  have c1 := h.cell1
  obtain ⟨ao, cap, rfl, _, _, _⟩ := h.sl.ex
  clear h
  obtain ⟨l, er⟩ := s
  unfold stEnd
  simp only at c0 c1 ⊢
  by_cases he : er = 0
  · subst he
    cases l with
    | nil =>
      go_enter Try.func31, Try.ntmps31
      go_wp2
      go_ret
      exact ⟨rfl, rfl⟩
    | cons c r =>
      have hz : ((((c :: r).length : Nat) : Int) == 0) = false := beq_eq_false_iff_ne.2 (by simp; omega)
      generalize hn : (c :: r).length = n at c0 hz
      clear hn
      go_enter Try.func31, Try.ntmps31
      go_wp2
      go_ret
      exact ⟨ret_bool (by first | rfl | (rw [hz]; rfl)), rfl⟩
  · have he' : (er == 0) = false := beq_eq_false_iff_ne.2 he
    go_enter Try.func31, Try.ntmps31
    go_wp2
    go_ret
    exact ⟨ret_bool (by first | rfl | (rw [he']; rfl)), rfl⟩
end Go.Proofs.Ytidkihadlhkbkaa
