/- PackOnce: the law's walk. -/
import Derived.Test.YtidkihadlhkbkaaNw
import Derived.Test.YtidkihadlhkbkaaIt
namespace Go.Proofs.Ytidkihadlhkbkaa
open Go.RowKit Pm

theorem PackOnce_long (v : Value) (l : Bs) (w : World) (hv : Sl w v l) (hl : 20000 < l.length) :
    Calls Try.prog 6 #[v] w fun e w' => e = .returned (.bool true) ∧ Fp Non w w' := by
  obtain ⟨ao, cap, rfl, _, _, _⟩ := hv.ex
  have r1 : (20000 < l.length) = True := eq_true hl
  have r2 : ((20000 : Int) < (l.length : Int)) = True := eq_true (by omega)
  clear hl hv
  go_enter Try.func6, Try.ntmps6
  go_wp2_with fail
  refine (head_c w).mono ?_
  rintro e w1 ⟨rfl, hf⟩
  have HF := Lib.hid hf; clear hf
  go_wp2
  go_ret
  exact ⟨rfl, HF.out⟩

theorem rNum_zero {s : St} {most : Int} (h0 : s.2 = 0) (h : (rNum s most).2.2 = 0) : s.1 = enc (rNum s most).1 ++ (rNum s most).2.1 := by
  unfold rNum at h ⊢
  rw [if_neg (by omega)] at h ⊢
  dsimp only at h ⊢
  exact (nx_ok (l := s.1) (most := most) (by rw [← h])).1

set_option maxHeartbeats 4000000 in
theorem PackOnce_in (v : Value) (l : Bs) (w : World) (hv : Sl w v l) (hb : ∀ k, v.ownBlock = some k → k < w.heap.size) (hl : l.length ≤ 20000) :
    Calls Try.prog 6 #[v] w fun e w' => e = .returned (.bool true) ∧ Fp Non w w' := by
  obtain ⟨ao, cap, rfl, _, _, _⟩ := hv.ex
  have r1 : (20000 < l.length) = False := eq_false (by omega)
  have r2 : ((20000 : Int) < (l.length : Int)) = False := eq_false (by omega)
  have HV := Lib.hid (And.intro hv (And.intro hb hl)); clear hv hb hl
  go_enter Try.func6, Try.ntmps6
  go_wp2_with fail
  refine (head_c w).mono ?_
  rintro e w1 ⟨rfl, hf⟩
  have hs1 := hf.size
  have hv1 := HV.out.1.keep hf (fun _ _ h => h)
  have HF := Lib.hid hf; clear hf
  have HV1 := Lib.hid hv1; clear hv1
  go_wp2_with fail
  refine (New_c w1.heap.size _ _ _ HV1.out (Nat.le_refl _)).mono ?_
  rintro e w2 ⟨br, rfl, hbr, hr, hf2⟩
  have hs2 := hf2.size
  have x0 := Wr.new TW w1.heap.size w2 hs2
  have hr' := hr.keep ((Fp.refl Non w2).alloc (.cells #[.slice none 0 0, .bool false] TW)) (fun h => h)
  have hbr2 := hr.lt
  have HR := Lib.hid hr'; clear hr hr'
  have hff := (HF.out.then hf2).alloc (.cells #[.slice none 0 0, .bool false] TW)
  have HF2 := Lib.hid hff; clear hff hf2
  have HX := Lib.hid x0; clear x0
  go_wp2_with fail
  go_loopw [6, 7] (fun i _ wr => ∃ k : Nat, k ≤ l.length ∧ i = .int .i64 k ∧ ∃ s L vx, Hid (Rr w1.heap.size br s wr ∧ Wr TW w1.heap.size w2.heap.size vx L false wr ∧ vx.ownBlock ≠ some br ∧ Fp Non w wr ∧
      s.1.length + k ≤ l.length ∧ L.length + s.1.length ≤ l.length ∧ (s.2 = 0 → l = L ++ s.1))) (fun i _ _ => l.length - (intOf i).toNat)
  case atStart => exact ⟨0, Nat.zero_le _, rfl, (l, 0), [], .slice none 0 0, HR.out, HX.out, (fun h => by cases h), HF2.out, by simp, by simp, fun _ => rfl⟩
  case round =>
    obtain ⟨k, hk, rfl, s, L, vx, hH⟩ := hrel
    by_cases hend : k < l.length ∧ stEnd s = false ∧ s.2 = 0
    · obtain ⟨hkl, he, hz⟩ := hend
      have g1 : ((k : Int) < (l.length : Int)) = True := eq_true (by omega)
      have g2 : (k < l.length) = True := eq_true hkl
      have hl2 := HV.out.2.2
      go_wp2_with fail
      refine (REnd_c _ _ _ _ hH.out.1).mono ?_
      rintro e w3 ⟨rfl, rfl⟩
      rw [he]
      go_wp2_with fail
      refine (RErr_c _ _ _ _ hH.out.1).mono ?_
      rintro e w3 ⟨rfl, rfl⟩
      rw [hz]
      go_wp2_with fail
      have hsl : s.1.length ≤ 1000000 := by have := hH.out.2.2.2.2.1; omega
      refine (RNum_c _ _ _ 281474976710656 _ hH.out.1 hsl).mono ?_
      rintro e w3 ⟨rfl, hr3⟩
      obtain ⟨hRr, hWr, hvb, hfp, hlk, hLs, hll⟩ := hH.out
      have hLne : w2.heap.size ≠ br := by omega
      have hown : ∀ k, own2 w2.heap.size vx k → ¬ k = br := by
        intro k hk e
        subst e
        rcases hk with hk | hk
        · exact hLne hk.symm
        · exact hvb hk
      have hW3 := hWr.keep hr3.2 hown
      have hf3 : Fp Non w w3 := hfp.trans hr3.2 (fun k hk => .inr (by have := HF.out.size; omega))
      have hM := rNum_M s 281474976710656
      have hle := rNum_le s 281474976710656
      have hzero := rNum_zero (most := 281474976710656) hz
      have herr : (rNum s 281474976710656).2.2 ≠ 0 → (rNum s 281474976710656).2.1 = [] := by
        intro h; unfold rNum at h ⊢; rw [if_neg (by omega)] at h ⊢; dsimp only at h ⊢; rw [(nx_err h).2]
      generalize rNum s 281474976710656 = x at hr3 hM hle hzero herr
      obtain ⟨n, s'⟩ := x
      simp only at hr3 hM hle hzero herr
      have hnM : n ≤ 281474976710656 := hM
      have HALL := Lib.hid (And.intro hr3.1 (And.intro hW3 (And.intro hf3 (And.intro hzero (And.intro herr (And.intro hle (And.intro hM (And.intro hll (And.intro hLs hlk))))))))); clear hr3 hW3 hf3 hzero herr hle hM hll hLs hlk hRr hWr hfp hnM
      go_wp2_with fail
      refine (RErr_c _ _ _ _ HALL.out.1).mono ?_
      rintro e w4 ⟨rfl, rfl⟩
      by_cases hs' : s'.2 = 0
      · rw [hs']
        obtain ⟨a1, a2, a3, a4, a5, a6, a7, a8, a9, a10⟩ := HALL.out
        have hsl1 := a4 hs'
        have hlen := congrArg List.length hsl1
        rw [List.length_append] at hlen
        have hen := enc_pos n
        have HB := Lib.hid (And.intro a1 (And.intro a2 (And.intro a3 (And.intro hsl1 (And.intro a8 (And.intro a9 a10))))))
        have hLl : L.length ≤ 50000000 := by omega
        have hlen2 : s'.1.length + (k + 1) ≤ l.length ∧ (L ++ enc n).length + s'.1.length ≤ l.length := by rw [List.length_append]; omega
        clear a1 a2 a3 a4 a5 a6 a8 a9 a10 hsl1 hlen hen
        have HLEN := Lib.hid hlen2; clear hlen2
        go_wp2_with fail
        refine (Num_ok _ _ _ _ _ n _ HB.out.2.1 a7 hLl).mono ?_
        rintro e w5 ⟨rfl, vx', hx', hfx, hvx⟩
        have hr5 := HB.out.1.keep hfx (fun h => hown _ h rfl)
        have hvb' : vx'.ownBlock ≠ some br := by
          intro h
          rcases hvx br h with h | h
          · exact hvb h
          · have := HB.out.1.lt; omega
        have hfw : Fp Non w w5 := HB.out.2.2.1.trans hfx (fun k hk => .inr (by have := (HB.out.2.1.all k hk).1; omega))
        have HZ := Lib.hid (And.intro hr5 (And.intro hx' (And.intro hvb' hfw))); clear hr5 hx' hvb' hfw hfx hvx
        go_wp2
        go_roundw
        case rel =>
          refine ⟨k + 1, by omega, by go_num, s', L ++ enc n, vx', HZ.out.1, HZ.out.2.1, HZ.out.2.2.1, HZ.out.2.2.2, HLEN.out.1, HLEN.out.2, fun _ => ?_⟩
          have h1 := HB.out.2.2.2.2.1 hz
          rw [HB.out.2.2.2.1] at h1
          rw [h1]; simp
        case measure => simp [intOf]; omega
      · have hs'' : (s'.2 == 0) = false := beq_eq_false_iff_ne.2 hs'
        have HS := Lib.hid hs'; clear hs'
        go_wp2
        go_roundw
        case rel =>
          obtain ⟨a1, a2, a3, a4, a5, a6, a7, a8, a9, a10⟩ := HALL.out
          have h0 := a5 HS.out
          refine ⟨k + 1, by omega, by go_num, s', L, vx, a1, a2, hvb, a3, by rw [h0]; simp; omega, by rw [h0]; simp; omega, fun h => absurd h HS.out⟩
        case measure => simp [intOf]; omega
    · by_cases hkl : k < l.length
      · have g1 : ((k : Int) < (l.length : Int)) = True := eq_true (by omega)
        have g2 : (k < l.length) = True := eq_true hkl
        by_cases hz : s.2 = 0
        · have he : stEnd s = true := by
            cases h : stEnd s
            · exact absurd ⟨hkl, h, hz⟩ hend
            · rfl
          have hnil : s.1 = [] := by
            unfold stEnd at he; rw [hz] at he; simpa using he
          clear hend
          go_wp2_with fail
          refine (REnd_c _ _ _ _ hH.out.1).mono ?_
          rintro e w3 ⟨rfl, rfl⟩
          rw [he]
          go_wp2_with fail
          refine (RErr_c _ _ _ _ hH.out.1).mono ?_
          rintro e w3 ⟨rfl, rfl⟩
          rw [hz]
          go_wp2_with fail
          refine (Bytes_c _ _ _ _ _ _ hH.out.2.1 (by have := hH.out.2.2.2.2.2.1; have := HV.out.2.2; omega)).mono ?_
          rintro e w4 ⟨vc, rfl, hc⟩
          simp only [Bool.false_eq_true, if_false] at hc ⊢
          have hr4 := hH.out.1.keep hc.fp (fun h => h)
          have hcv := conv_sl w4 _ _ hc.sl
          have hfw : Fp Non w w4 := hH.out.2.2.2.1.then hc.fp
          have hbv := conv_sl w4 _ _ (HV.out.1.keep hfw (fun _ _ h => h))
          obtain ⟨aoc, capc, rfl⟩ := hc.shape
          have HFW := Lib.hid hfw
          have HR4 := Lib.hid hr4
          have hLl : L = l := by have := hH.out.2.2.2.2.2.2 hz; rw [hnil, List.append_nil] at this; exact this.symm
          subst hLl
          clear hc hr4 hfw
          have hse : stEnd s = true := by unfold stEnd; rw [hz, hnil]; rfl
          go_wp2_with fail
          refine (REnd_c _ _ _ _ HR4.out).mono ?_
          rintro e w5 ⟨rfl, rfl⟩
          rw [hse]
          go_wp2
          go_ret
          exact ⟨rfl, HFW.out⟩
        · have he : stEnd s = false := by unfold stEnd; rw [beq_eq_false_iff_ne.2 hz]; rfl
          have he2 : (s.2 == 0) = false := beq_eq_false_iff_ne.2 hz
          clear hend
          go_wp2_with fail
          refine (REnd_c _ _ _ _ hH.out.1).mono ?_
          rintro e w3 ⟨rfl, rfl⟩
          rw [he]
          go_wp2_with fail
          refine (RErr_c _ _ _ _ hH.out.1).mono ?_
          rintro e w3 ⟨rfl, rfl⟩
          go_wp2_with fail
          refine (RErr_c _ _ _ _ hH.out.1).mono ?_
          rintro e w3 ⟨rfl, rfl⟩
          have he' : (s.2 == 0) = false := beq_eq_false_iff_ne.2 hz
          go_wp2
          go_ret
          exact ⟨rfl, hH.out.2.2.2.1⟩
      · have g1 : ((k : Int) < (l.length : Int)) = False := eq_false (by omega)
        have g2 : (k < l.length) = False := eq_false hkl
        clear hend
        by_cases hz : s.2 = 0
        · have hnil : s.1 = [] := List.eq_nil_of_length_eq_zero (by have := hH.out.2.2.2.2.1; omega)
          go_wp2_with fail
          refine (RErr_c _ _ _ _ hH.out.1).mono ?_
          rintro e w3 ⟨rfl, rfl⟩
          rw [hz]
          go_wp2_with fail
          refine (Bytes_c _ _ _ _ _ _ hH.out.2.1 (by have := hH.out.2.2.2.2.2.1; have := HV.out.2.2; omega)).mono ?_
          rintro e w4 ⟨vc, rfl, hc⟩
          simp only [Bool.false_eq_true, if_false] at hc ⊢
          have hr4 := hH.out.1.keep hc.fp (fun h => h)
          have hcv := conv_sl w4 _ _ hc.sl
          have hfw : Fp Non w w4 := hH.out.2.2.2.1.then hc.fp
          have hbv := conv_sl w4 _ _ (HV.out.1.keep hfw (fun _ _ h => h))
          obtain ⟨aoc, capc, rfl⟩ := hc.shape
          have HFW := Lib.hid hfw
          have HR4 := Lib.hid hr4
          have hLl : L = l := by have := hH.out.2.2.2.2.2.2 hz; rw [hnil, List.append_nil] at this; exact this.symm
          subst hLl
          clear hc hr4 hfw
          have hse : stEnd s = true := by unfold stEnd; rw [hz, hnil]; rfl
          go_wp2_with fail
          refine (REnd_c _ _ _ _ HR4.out).mono ?_
          rintro e w5 ⟨rfl, rfl⟩
          rw [hse]
          go_wp2
          go_ret
          exact ⟨rfl, HFW.out⟩
        · skip
          go_wp2_with fail
          refine (RErr_c _ _ _ _ hH.out.1).mono ?_
          rintro e w3 ⟨rfl, rfl⟩
          have he' : (s.2 == 0) = false := beq_eq_false_iff_ne.2 hz
          go_wp2
          go_ret
          exact ⟨rfl, hH.out.2.2.2.1⟩

theorem PackOnce_c (v : Value) (l : Bs) (w : World) (hv : Sl w v l) :
    Calls Try.prog 6 #[v] w fun e w' => e = .returned (.bool true) ∧ Below w.heap.size w w' := by
  have k : Calls Try.prog 6 #[v] w fun e w' => e = .returned (.bool true) ∧ Fp Non w w' := by
    by_cases hs : 20000 < l.length
    · exact PackOnce_long v l w hv hs
    · refine PackOnce_in v l w hv ?_ (by omega)
      intro k hk
      obtain ⟨ao, cap, rfl, _, _, h3⟩ := hv.ex
      rcases h3 with ⟨rfl, _⟩ | ⟨g, o, rfl, hg, _⟩
      · cases hk
      · simp [Value.ownBlock] at hk; omega
  exact k.mono fun e w' h => ⟨h.1, h.2.below (fun _ h => h.elim) (Nat.le_refl _)⟩
end Go.Proofs.Ytidkihadlhkbkaa
