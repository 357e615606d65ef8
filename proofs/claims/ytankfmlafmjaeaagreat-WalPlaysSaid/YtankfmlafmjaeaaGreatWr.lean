/- Write. -/
import Derived.Test.YtankfmlafmjaeaaGreatBy
namespace Go.Proofs.YtankfmlafmjaeaaGreat
set_option maxRecDepth 20000
open Go.RowKit Pm

/-- The rest of a slice. -/
theorem Sl.drop {w : World} {g o cap : Nat} {l : Bs} (h : Sl w (.slice (some ⟨g, o, none⟩) l.length cap) l) (k : Nat) (hk : k ≤ l.length) : Sl w (.slice (some ⟨g, o + k, none⟩) (l.length - k) (cap - k)) (l.drop k) := by
  obtain ⟨ao, c, e, h1, h2, h3⟩ := h.ex
  injection e with e1 _ e3
  subst e1 e3
  have hl : (l.drop k).length = l.length - k := by simp
  refine ⟨some ⟨g, o + k, none⟩, cap - k, by rw [hl], by rw [hl]; omega, by omega, ?_⟩
  rcases h3 with ⟨h0, _⟩ | ⟨g2, o2, e, hg, hc⟩
  · cases h0
  · injection e with e
    injection e with e1 e2
    subst e1 e2
    refine .inr ⟨g, o + k, rfl, hg, fun j hj => ?_⟩
    have := hc (k + j) (by omega)
    rw [show o + k + j = o + (k + j) by omega, this]
    simp

theorem dcells_put (g m : Nat) (s : Dk) (a : Nat) (b : Bs) : dcells g m (put s a b) = dcells g m s := by simp [dcells, put, mark_len]
/-- A piece more. -/
theorem Dr.piece {lo b g m : Nat} {s : Dk} {w w1 w2 : World} {a k n q : Nat} {l : Bs} {v : Value} (h : Dr lo b g m (put s a (l.take k)) w) (hr : Rt s) (hu : UpR m ((put s a (l.take k)).wet.set q true) (put s a (l.take k)).old w w1)
    (hc : CpR g TB (spl s.cur a (l.take (k + n))) n w1.drew v w2) (hk : k + n ≤ l.length) (hn : 0 < n) (hal : a + l.length ≤ s.cur.length) (h1 : q * 16 ≤ a + k) (h2 : a + k + n ≤ (q + 1) * 16) :
    Dr lo b g m (put s a (l.take (k + n))) w2 ∧ Fp (own3 b g m) w w2 := by
  have hf1 : Fp (own3 b g m) w w1.drew := hu.fp.drew.mono (fun x hx => .inr (.inr hx))
  have hf2 : Fp (own3 b g m) w1.drew w2 := hc.fp.mono (fun x hx => .inr (.inl hx))
  have l1 : (l.take k).length = k := by simp; omega
  have l2 : (l.take (k + n)).length = k + n := by simp; omega
  refine ⟨⟨hr.put a _ (by rw [l2]; omega), h.low, h.ne, ?_, hc.row, ?_⟩, hf1.same hf2⟩
  · rw [dcells_put]
    have hb := h.blk
    rw [dcells_put] at hb
    exact hc.fp.heap (hu.fp.drew.heap hb h.ne.2.1) h.ne.1
  · have := hu.mp.keep (Fp.drew (Fp.refl Non w1)) (fun h => h) |>.keep hc.fp (fun e => h.ne.2.2 e.symm)
    show Mp w2 m (Pm.mark s.wet a (l.take (k + n)).length) s.old
    rw [l2, mark_step s.wet a k n q hn h1 h2]
    have e : (put s a (l.take k)).wet = Pm.mark s.wet a k := by show Pm.mark s.wet a (l.take k).length = _; rw [l1]
    rw [e] at this
    exact this

theorem put_nil (s : Dk) (a : Nat) : put s a [] = s := by unfold put; rw [spl_nil, List.length_nil, mark_zero]

set_option maxHeartbeats 1000000 in
theorem Write_c {lo b g m : Nat} {s : Dk} {w : World} (h : Dr lo b g m s w) (at_ : Int) (ha : -9223372036854775808 ≤ at_ ∧ at_ ≤ 9223372036854775807) (bv : Value) (l : Bs) (hl : Sl0 w bv l) (hd : 0 < l.length → ∀ k, bv.ownBlock = some k → ¬ own3 b g m k) (hacts : s.acts ≤ 999999) :
    Calls Tryz.prog 59 #[.pointer (some ⟨b, 0, none⟩), .int .i64 at_, bv] w fun e w' => e = .returned (.int .i64 (dWrite s at_ l).1) ∧ Dr lo b g m (dWrite s at_ l).2 w' ∧ Fp (own3 b g m) w w' := by
  obtain ⟨ao, cap, rfl, h1, h2, h3⟩ := hl.ex
  unfold maxLen at h2
  have hfits : fits (pw s) at_ l.length ↔ fits s at_ l.length := Iff.rfl
  have HH := Lib.hid (And.intro h (And.intro hl (And.intro hd hacts)))
  clear h hl hd hacts
  have hc := power_c HH.out.1
  unfold dWrite
  cases hoff : (pw s).off with
  | true =>
    rw [hoff] at hc
    simp only [if_true] at hc ⊢
    have HC := Lib.hid hc; clear hc
    go_enter Tryz.func59, Tryz.ntmps59
    go_wp2_with fail
    refine HC.out.mono ?_
    rintro e w1 ⟨rfl, hp, hf1⟩
    have HP := Lib.hid (And.intro hp hf1); clear hp hf1
    go_wp2
    go_ret
    exact ⟨rfl, HP.out.1, HP.out.2.mono (fun k hk => .inl hk)⟩
  | false =>
    rw [hoff] at hc
    simp only [Bool.false_eq_true, if_false] at hc ⊢
    have HC := Lib.hid hc; clear hc
    by_cases hfit : fits s at_ l.length
    · have hfit2 : decide (fits (pw s) at_ (l.length : Int)) = true := decide_eq_true (hfits.2 hfit)
      rw [if_pos hfit]
      have hcl := HH.out.1.rt.cl
      have hhi := HH.out.1.rt.hi
      obtain ⟨a, rfl⟩ := Int.eq_ofNat_of_zero_le hfit.1
      have hal : a + l.length ≤ s.cur.length := by have := hfit.2.2; omega
      have HFIT := Lib.hid (And.intro hfit (And.intro hfit2 hfits)); clear hfit hfit2 hfits
      rw [Int.toNat_natCast]
      go_enter Tryz.func59, Tryz.ntmps59
      go_wp2_with fail
      refine HC.out.mono ?_
      rintro e w1 ⟨rfl, hp, hf1⟩
      have HP := Lib.hid (And.intro hp hf1); clear hp hf1
      go_wp2_with fail
      have hwi := within_c HP.out.1 a l.length ha.2
      rw [HFIT.out.2.1] at hwi
      refine hwi.mono ?_
      rintro e w2 ⟨rfl, rfl⟩
      clear hwi
      go_wp2_with fail
      go_loopw [8] (fun d wr => ∃ k : Nat, k ≤ l.length ∧ d = .int .i64 k ∧ Hid (Dr lo b g m (put (pw s) a (l.take k)) wr ∧ Fp (own3 b g m) w wr)) (fun d _ => l.length - (RowKit.intOf d).toNat)
      case atStart => exact ⟨0, Nat.zero_le _, rfl, by rw [List.take_zero, put_nil]; exact ⟨HP.out.1, HP.out.2.mono (fun k hk => .inl hk)⟩⟩
      case round =>
        obtain ⟨k, hk, rfl, hR⟩ := hrel
        rename_i wr _
        by_cases hlt : k < l.length
        · rcases h3 with h0 | ⟨g2, o2, rfl, hg2, hc2⟩
          · omega
          obtain ⟨q, hqe⟩ : ∃ q, q = (a + k) / 16 := ⟨_, rfl⟩
          obtain ⟨f, hfe⟩ : ∃ f, f = (a + k) % 16 := ⟨_, rfl⟩
          have hqf : q * 16 + f = a + k := by omega
          have hf16 : f < 16 := by omega
          have hqn : q < s.wet.length := by omega
          have e1 : ((a : Int) + (k : Int)) / 16 = (q : Int) := by omega
          have e2 : ((a : Int) + (k : Int)) % 16 = (f : Int) := by omega
          have t1 : ((a : Int) + (k : Int)).tdiv 16 = (q : Int) := by rw [Int.tdiv_eq_ediv_of_nonneg (by omega)]; exact e1
          have t2 : ((a : Int) + (k : Int)).tmod 16 = (f : Int) := by rw [Int.tmod_eq_emod_of_nonneg (by omega)]; exact e2
          have q1 : ((k : Int) < (l.length : Int)) = True := eq_true (by omega)
          obtain ⟨m1, hm⟩ : ∃ m1, m1 = Nat.min (l.length - k) (16 - f) := ⟨_, rfl⟩
          have hm1 : m1 ≤ 16 - f := by rw [hm]; exact Nat.min_le_right _ _
          have hm2 : m1 ≤ l.length - k := by rw [hm]; exact Nat.min_le_left _ _
          have hm0 : 0 < m1 := by have h1 : 0 < 16 - f := by omega
                                  have h2 : 0 < l.length - k := by omega
                                  rw [hm]; exact Nat.lt_min.2 ⟨h2, h1⟩
          have hwk : (put (pw s) a (l.take k)).wet.length = s.wet.length := mark_len _ _ _
          have hqb : q ≤ 4096 := by omega
          have HA := Lib.hid (And.intro e1 (And.intro e2 (And.intro hqe (And.intro hfe (And.intro hqf (And.intro hf16 (And.intro hqn hwk)))))))
          have HM := Lib.hid (And.intro hm (And.intro hm1 (And.intro hm2 (And.intro hm0 (And.intro hlt hk)))))
          have HB := Lib.hid (And.intro hal (And.intro hcl hhi))
          have HC := Lib.hid hc2
          clear e1 e2 hqe hfe hqf hqn hwk hm hm1 hm2 hm0 hc2
          go_wp2_with fail
          refine (loosen_c hR.out.1 q (by rw [HA.out.2.2.2.2.2.2.2]; exact HA.out.2.2.2.2.2.2.1)).mono ?_
          rintro e w3 ⟨rfl, hu⟩
          obtain ⟨hm, hm1, hm2, hm0, hlt, hk⟩ := HM.out
          obtain ⟨e1, e2, hqe, hfe, hqf, _, hqn, hwk⟩ := HA.out
          have hal := HB.out.1
          have hfu : Fp (fun k => k = m) wr w3.drew := hu.fp.drew
          have hb3 : w3.heap[b]? = _ := hu.fp.heap hR.out.1.blk hR.out.1.ne.2.1
          have hg3 : Rw w3.drew g TB (spl s.cur a (l.take k)) := (hR.out.1.row.keep hu.fp (fun e => hR.out.1.ne.2.2 e)).keep (Fp.drew (Fp.refl Non w3)) (fun h => h)
          have c0 : w3.cell? ⟨b, 0, none⟩ = some (.slice (some ⟨g, 0, none⟩) s.wet.length s.wet.length) := by
            rw [dcells_put] at hb3
            simp [World.cell?, hb3, pw]
          have hsl : Sl w3.drew (.slice (some ⟨g2, o2 + k, none⟩) (l.length - k) (cap - k)) (l.drop k) :=
            (((HH.out.2.1.pos (by omega)).keep hR.out.2 (HH.out.2.2.1 (by omega))).keep hfu (fun x hx e => HH.out.2.2.1 (by omega) x hx (.inr (.inr e)))).drop k (by omega)
          have htl : (l.take k).length = k := by simp; omega
          have hsc : (spl s.cur a (l.take k)).length = s.cur.length := spl_len _ _ _ (by rw [htl]; omega)
          have hcp := copy_at hg3 (q * 16 + f) (16 - f) (16 - f) hsl m1 (by rw [hm]; congr 1; simp) (by rw [hsc]; omega) (some ⟨g, q * 16 + f, none⟩) (fun _ => rfl) 3
          have hnext : spl (spl s.cur a (l.take k)) (q * 16 + f) ((l.drop k).take m1) = spl s.cur a (l.take (k + m1)) := by
            have := spl_spl s.cur a (l.take k) ((l.drop k).take m1) (by simp; omega)
            rw [htl] at this
            rw [hqf, this, List.take_add]
          rw [hnext] at hcp
          have hfin : Hid (∀ v w4, CpR g TB (spl s.cur a (l.take (k + m1))) m1 w3.drew v w4 → Dr lo b g m (put (pw s) a (l.take (k + m1))) w4 ∧ Fp (own3 b g m) wr w4) := fun v w4 hc4 =>
            hR.out.1.piece (n := m1) (q := q) HP.out.1.rt hu hc4 (by omega) hm0 hal (by omega) (by omega)
          have HC2 := Lib.hid hcp
          have q2 : ((q : Int) < (s.wet.length : Int)) = True := eq_true (by omega)
          have q3 : (q < s.wet.length) = True := eq_true hqn
          have q5 : (k < l.length) = True := eq_true hlt
          have q6 : (cap = k) = False := eq_false (by omega)
          have q7 := slice_blk g (q * 16) f hf16
          have hk3 : k ≤ 70000 := by have := HB.out; omega
          have hm3 : m1 ≤ 16 := by omega
          have HZ := Lib.hid (And.intro hu (And.intro hfu (And.intro hsl htl)))
          clear hcp hsl htl hsc hnext hu hfu hb3 hg3 hm hm1 hm2 hm0 e1 e2 hqe hfe hqf hqn hwk hal hk hlt
          go_wp2_with fail
          go_region_law (refine step_copy rfl _ _ _ _ rfl _ _ rfl rfl _ HC2.out ?_; intro v' w4 hw4; have HW := Lib.hid (hfin.out _ _ hw4); obtain rfl := hw4.val; clear hw4)
          have hwr : IntKind.i64.wrap ((k : Int) + (m1 : Int)) = ((k + m1 : Nat) : Int) := by rw [IntKind.wrap_i64]; omega
          simp only [List.getElem_toArray, List.getElem_cons_succ, List.getElem_cons_zero, hwr]
          have hm2 := HM.out.2.2.1
          have hm0 := HM.out.2.2.2.1
          go_frame
          go_wp2
          go_roundw
          case rel => exact ⟨k + m1, by have := HM.out.2.2.2.2.1; omega, by go_num, HW.out.1, hR.out.2.same HW.out.2⟩
          case measure => have := HM.out.2.2.2.2.1; simp [RowKit.intOf]; omega
        · have q1 : ((k : Int) < (l.length : Int)) = False := eq_false (by omega)
          have hkn : l.take k = l := List.take_of_length_le (by omega)
          rw [hkn] at hR
          have hac : (put (pw s) a l).acts ≤ 1000000 := by have := HH.out.2.2.2; show s.acts ≤ _; omega
          have HE := Lib.hid (And.intro hkn (And.intro hac (And.intro hlt hk)))
          clear hkn hac hlt hk
          go_wp2_with fail
          refine (performed_c hR.out.1 HE.out.2.1).mono ?_
          rintro e w3 ⟨rfl, hd3, hf3⟩
          have HD := Lib.hid (And.intro hd3 (hR.out.2.same (hf3.mono (fun x hx => .inl hx)))); clear hd3 hf3
          go_wp2
          go_ret
          exact ⟨rfl, HD.out.1, HD.out.2⟩
    · have hfit2 : decide (fits (pw s) at_ (l.length : Int)) = false := decide_eq_false (fun h => hfit (hfits.1 h))
      rw [if_neg hfit]
      have HFIT := Lib.hid (And.intro hfit (And.intro hfit2 hfits)); clear hfit hfit2 hfits
      go_enter Tryz.func59, Tryz.ntmps59
      go_wp2_with fail
      refine HC.out.mono ?_
      rintro e w1 ⟨rfl, hp, hf1⟩
      have HP := Lib.hid (And.intro hp hf1); clear hp hf1
      go_wp2_with fail
      have hwi := within_c HP.out.1 at_ l.length ha.2
      rw [HFIT.out.2.1] at hwi
      refine hwi.mono ?_
      rintro e w2 ⟨rfl, rfl⟩
      clear hwi
      go_wp2
      go_ret
      exact ⟨rfl, HP.out.1, HP.out.2.mono (fun k hk => .inl hk)⟩
end Go.Proofs.YtankfmlafmjaeaaGreat
