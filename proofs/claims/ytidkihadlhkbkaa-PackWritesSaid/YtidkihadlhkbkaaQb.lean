/- The document's own Num: its walk. -/
import Derived.Test.YtidkihadlhkbkaaQa
namespace Go.Proofs.Ytidkihadlhkbkaa
open Go.RowKit Pm

set_option maxHeartbeats 4000000 in
theorem QNum_ok (lo b : Nat) (v : Value) (l : Bs) (most : Int) (w : World) (h : Rq lo b v (l, 0) w) (hl : l.length ≤ 1000000) :
    Calls Try.prog 23 #[.pointer (some ⟨b, 0, none⟩), .int .i64 most] w fun e w' => e = .returned (.int .i64 ((nx l most).2.1 : Nat)) ∧ RqStep lo b v ((nx l most).2.2, (nx l most).1) w w' := by
  obtain ⟨f0, f1⟩ := h.free
  have c0 := h.cell0
  have c1 := h.cell1
  obtain ⟨ao, cap, rfl, h1, h2, h3⟩ := h.sl.ex
  have h2' : cap ≤ 9223372036854775807 := by unfold maxLen at h2; omega
  clear h2
  have HR := Lib.hid h; clear h
  go_enter Try.func23, Try.ntmps23
  go_wp2_with fail
  go_loop [5, 6, 7] (fun n i _ => ∃ k : Nat, k ≤ 7 ∧ k ≤ l.length ∧ i = .int .i64 k ∧ n = .int .i64 (val (l.take k)) ∧ Hid (∀ i (h : i < l.length), i < k → 128 ≤ l[i].toNat) ∧ Hid (∀ _ : 0 < k, ∀ h : 0 < l.length, l[0].toNat ≠ 128)) (fun _ i _ => 7 - (intOf i).toNat)
  case atStart => exact ⟨0, by omega, by omega, rfl, rfl, fun i h hn => by omega, fun h => by omega⟩
  case round =>
    obtain ⟨k, hk, hkl, rfl, rfl, ha, hh⟩ := hrel
    by_cases h7 : k < 7
    · by_cases hlt : k < l.length
      · rcases h3 with ⟨rfl, rfl⟩ | ⟨g, o, rfl, hg, hc⟩
        · omega
        have hck := hc k hlt
        have hv := val_take_succ l k hlt
        have hb := val_lt 6 (l.take k) (by rw [List.length_take]; omega)
        have hb2 : val (l.take (k + 1)) < 562949953421312 := val_lt 7 (l.take (k + 1)) (by rw [List.length_take]; omega)
        generalize hv0 : val (l.take (k + 1)) = v' at hv hb2
        have HV0 := Lib.hid hv0.symm; clear hv0
        generalize val (l.take k) = v at hv hb
        generalize hcc : l[k] = cc at hck hv
        have HC := Lib.hid hcc; clear hcc
        have HV := Lib.hid hv; clear hv
        have hcl : cc.toNat < 256 := cc.toNat_lt
        have hb' : v < 4398046511104 := by omega
        clear hb hc
        have HB := Lib.hid (And.intro hb2 hcl); clear hb2 hcl
        have HL := Lib.hid (And.intro hl (And.intro hk (And.intro hkl (And.intro h1 h2')))); clear hl hk hkl h2' hg
        have r7 : ((k : Int) < 7) = True := eq_true (by omega)
        have rl : (l.length ≤ k) = False := eq_false (by omega)
        by_cases hc128 : cc.toNat < 128
        · have hc128' : ((cc.toNat : Int) < 128) = True := eq_true (by omega)
          have hle : lead 7 l = k := lead_stop k l (by omega) (by omega) ha (Or.inr (Or.inr ⟨hlt, by rw [HC.out]; exact hc128⟩))
          have hne : ∀ h : 0 < l.length, l[0].toNat ≠ 128 := by
            rcases Nat.eq_zero_or_pos k with h0 | h0
            · subst h0; intro _; rw [HC.out]; omega
            · exact hh h0
          have hx := nx_val l most k h7 hle hne hlt
          rw [← HV0.out] at hx
          have HX := Lib.hid hx
          have hz8 : ((cc.toNat : Int) == 128) = false := beq_eq_false_iff_ne.2 (by omega)
          have hve : (v : Int) * 128 + (cc.toNat : Int) % 128 = (v' : Int) := by have := HV.out; omega
          clear hle hne hx hc128
          by_cases hM1 : M < v'
          · cases hz0 : ((k : Int) == 0)
            all_goals (
              have HN := Lib.hid (show nx l most = (3, 0, []) by rw [HX.out, if_pos (.inl hM1)])
              unfold M at hM1
              have hM1' : ((281474976710656 : Int) < v') = True := eq_true (by omega)
              clear hM1
              go_wp2_with fail
              refine (fail_c lo b _ l 3 _ HR.out).mono ?_
              rintro e w1 ⟨rfl, hf⟩
              have HF := Lib.hid hf; clear hf
              go_wp2
              go_ret
              exact ⟨by rw [HN.out]; rfl, by rw [HN.out]; exact HF.out⟩
            )
          by_cases hM2 : most < (v' : Int)
          · cases hz0 : ((k : Int) == 0)
            all_goals (
              have HN := Lib.hid (show nx l most = (3, 0, []) by rw [HX.out, if_pos (.inr hM2)])
              unfold M at hM1
              have hM1' : ((281474976710656 : Int) < v') = False := eq_false (by omega)
              have hM2' : (most < (v' : Int)) = True := eq_true hM2
              clear hM1 hM2
              go_wp2_with fail
              refine (fail_c lo b _ l 3 _ HR.out).mono ?_
              rintro e w1 ⟨rfl, hf⟩
              have HF := Lib.hid hf; clear hf
              go_wp2
              go_ret
              exact ⟨by rw [HN.out]; rfl, by rw [HN.out]; exact HF.out⟩
            )
          cases hz0 : ((k : Int) == 0)
          all_goals (
            have HN := Lib.hid (show nx l most = (0, v', l.drop (k + 1)) by rw [HX.out, if_neg (fun h => h.elim hM1 hM2)])
            have hM1' : ((281474976710656 : Int) < v') = False := eq_false (by have h9 : ¬ 281474976710656 < v' := hM1; omega)
            have hM2' : (most < (v' : Int)) = False := eq_false hM2
            clear hM1 hM2
            obtain ⟨p, hp, hsl⟩ := Sl.from HR.out.sl (k + 1) (show k + 1 ≤ l.length by omega)
            have hfin : RqStep lo b (.slice (some ⟨g, o, none⟩) l.length cap) (l.drop (k + 1), 0) w (w.setCell ⟨b, 0, none⟩ (.slice (some ⟨g, p, none⟩) (l.length - (k + 1)) (cap - (k + 1)))) :=
              ⟨_, HR.out.put0 hsl (fun k hk => hk), (Fp.refl (fun k => k = b) w).setCell (p := ⟨b, 0, none⟩) (.inl rfl) _, fun k hk => hk⟩
            have HF := Lib.hid hfin; clear hfin hsl
            go_wp2_with fail
            go_ret
            exact ⟨by rw [HN.out]; rfl, by rw [HN.out]; exact HF.out⟩
          )
        · have hc128' : ((cc.toNat : Int) < 128) = False := eq_false (by omega)
          by_cases hz : k = 0
          · by_cases hc0 : cc.toNat = 128
            · have hz' : ((k : Int) == 0) = true := beq_iff_eq.2 (by omega)
              have hc0' : ((cc.toNat : Int) == 128) = true := beq_iff_eq.2 (by omega)
              have HN := Lib.hid (nx_first l most (by omega) (show (l[0]'(by omega)).toNat = 128 by subst hz; rw [HC.out]; exact hc0)); clear hc0 hc128 h1 hz
              go_wp2_with fail
              refine (fail_c lo b _ l 3 _ HR.out).mono ?_
              rintro e w1 ⟨rfl, hf⟩
              have HF := Lib.hid hf; clear hf
              go_wp2
              go_ret
              exact ⟨by rw [HN.out]; rfl, by rw [HN.out]; exact HF.out⟩
            · have hz' : ((k : Int) == 0) = true := beq_iff_eq.2 (by omega)
              have hc0' : ((cc.toNat : Int) == 128) = false := beq_eq_false_iff_ne.2 (by omega)
              have HZ := Lib.hid (And.intro hz (And.intro hc0 hc128)); clear hc0 hc128 h1 hz
              go_wp2
              go_round
              case rel => exact ⟨k + 1, by omega, by omega, by go_num, by rw [← HV0.out, HV.out]; congr 1, fun i hi hn => by
                have := HZ.out
                obtain rfl : i = k := by omega
                rw [HC.out]; omega, fun _ h => by
                have := HZ.out
                obtain rfl : 0 = k := by omega
                rw [HC.out]; exact this.2.1⟩
              case measure => simp [intOf]; omega
          · have hz' : ((k : Int) == 0) = false := beq_eq_false_iff_ne.2 (by omega)
            have HZ := Lib.hid (And.intro hz hc128); clear hz hc128 h1
            go_wp2
            go_round
            case rel => exact ⟨k + 1, by omega, by omega, by go_num, by rw [← HV0.out, HV.out]; congr 1, fun i hi hn => by
              by_cases hik : i = k
              · subst hik; rw [HC.out]; have := HZ.out.2; omega
              · exact ha i hi (by omega), fun _ h => hh (by have := HZ.out.1; omega) h⟩
            case measure => simp [intOf]; omega
      · have r7 : ((k : Int) < 7) = True := eq_true (by omega)
        have hke : k = l.length := by omega
        have HN := Lib.hid (nx_end l most k h7 (lead_stop k l (by omega) (by omega) ha (Or.inr (Or.inl hke))) (fun h => hh (by omega) h) hke)
        go_wp2_with fail
        refine (fail_c lo b _ l 21 _ HR.out).mono ?_
        rintro e w1 ⟨rfl, hf⟩
        have HF := Lib.hid hf; clear hf
        go_wp2
        go_ret
        exact ⟨by rw [HN.out]; rfl, by rw [HN.out]; exact HF.out⟩
    · have HN := Lib.hid (nx_seven l most (by rw [lead_stop k l (by omega) (by omega) ha (Or.inl (by omega))]; omega))
      go_wp2_with fail
      refine (fail_c lo b _ l 3 _ HR.out).mono ?_
      rintro e w1 ⟨rfl, hf⟩
      have HF := Lib.hid hf; clear hf
      go_wp2
      go_ret
      exact ⟨by rw [HN.out]; rfl, by rw [HN.out]; exact HF.out⟩

theorem QNum_err (lo b : Nat) (v : Value) (s : St) (most : Int) (w : World) (h : Rq lo b v s w) (he : s.2 ≠ 0) :
    Calls Try.prog 23 #[.pointer (some ⟨b, 0, none⟩), .int .i64 most] w fun e w' => e = .returned (.int .i64 0) ∧ w = w' := by
  have c1 := h.cell1
  have he' : (s.2 == 0) = false := beq_eq_false_iff_ne.2 he
  clear h he
  go_enter Try.func23, Try.ntmps23
  go_wp2
  go_ret
  exact ⟨rfl, rfl⟩

theorem QNum_c (lo b : Nat) (v : Value) (s : St) (most : Int) (w : World) (h : Rq lo b v s w) (hl : s.1.length ≤ 1000000) :
    Calls Try.prog 23 #[.pointer (some ⟨b, 0, none⟩), .int .i64 most] w fun e w' => e = .returned (.int .i64 (rNum s most).1) ∧ RqStep lo b v (rNum s most).2 w w' := by
  obtain ⟨l, er⟩ := s
  unfold rNum
  by_cases he : er ≠ 0
  · rw [if_pos he]
    refine (QNum_err lo b v (l, er) most w h he).mono ?_
    rintro e w' ⟨rfl, rfl⟩
    exact ⟨rfl, RqStep.refl h⟩
  · rw [if_neg he]
    have : er = 0 := by simpa using he
    subst this
    exact QNum_ok lo b v l most w h hl
end Go.Proofs.Ytidkihadlhkbkaa
