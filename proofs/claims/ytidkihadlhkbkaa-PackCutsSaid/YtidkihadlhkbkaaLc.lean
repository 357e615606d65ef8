/- PackCuts: the law's walk. -/
import Derived.Test.YtidkihadlhkbkaaNw
namespace Go.Proofs.Ytidkihadlhkbkaa
open Go.RowKit Pm

theorem PackCuts_long (n : Int) (s : Bs) (c : Nat) (w : World) (hs : 20000 < s.length) :
    Calls Try.prog 8 #[.int .i64 n, .string (B s), .int .u8 c] w fun e w' => e = .returned (.bool true) ∧ Fp Non w w' := by
  have r1 : (20000 < s.length) = True := eq_true hs
  have r2 : ((20000 : Int) < (s.length : Int)) = True := eq_true (by omega)
  clear hs
  go_enter Try.func8, Try.ntmps8
  go_wp2_with fail
  refine (head_c w).mono ?_
  rintro e w1 ⟨rfl, hf⟩
  have HF := Lib.hid hf; clear hf
  go_wp2
  go_ret
  exact ⟨rfl, HF.out⟩

theorem cut_mod (c L : Nat) (_ : 0 < L) : Int.tmod (c : Int) (L : Int) = ((c % L : Nat) : Int) ∧ (c : Int) % (L : Int) = ((c % L : Nat) : Int) := by
  constructor
  · rw [Int.tmod_eq_emod_of_nonneg (by omega)]; rfl
  · rfl

theorem Sl.some' {w : World} {ao : Option Addr} {len cap : Nat} {l : Bs} (h : Sl w (.slice ao len cap) l) (h0 : 0 < l.length) : ∃ g o, ao = some ⟨g, o, none⟩ := by
  obtain ⟨ao', cap', e, h1, h2, h3⟩ := h.ex
  injection e with e1 e2 e3
  subst e1 e2 e3
  rcases h3 with ⟨_, rfl⟩ | ⟨g, o, e, _⟩
  · omega
  · exact ⟨g, o, e⟩

set_option maxHeartbeats 4000000 in
theorem PackCuts_out (n : Int) (s : Bs) (c : Nat) (w : World) (hc : c ≤ 255) (hs : s.length ≤ 20000) (hn : n < 0 ∨ (M : Int) < n) :
    Calls Try.prog 8 #[.int .i64 n, .string (B s), .int .u8 c] w fun e w' => e = .returned (.bool true) ∧ Fp Non w w' := by
  have hs1 : (20000 < s.length) = False := eq_false (by omega)
  have hs2 : ((20000 : Int) < (s.length : Int)) = False := eq_false (by omega)
  have hT : 0 < (encT s).length ∧ (encT s).length ≤ 30000 ∧ s.length ≤ M := by
    have h1 := enc_len s.length (by unfold M; omega)
    refine ⟨by unfold encT; simp; omega, by unfold encT; simp; omega, by unfold M; omega⟩
  have HT := Lib.hid hT; clear hT
  rw [show ((M : Nat) : Int) = 281474976710656 from rfl] at hn
  have HN := Lib.hid hn
  have hgd : ((0 : Int) ≤ n) = False ∨ ((0 : Int) ≤ n) = True ∧ (n ≤ 281474976710656) = False := by
    by_cases h : (0 : Int) ≤ n
    · exact .inr ⟨eq_true h, eq_false (by omega)⟩
    · exact .inl (eq_false h)
  clear hn
  go_enter Try.func8, Try.ntmps8
  go_wp2_with fail
  refine (head_c w).mono ?_
  rintro e w1 ⟨rfl, hf⟩
  have x0 := Wr.new TW w1.heap.size w1 (Nat.le_refl _)
  have HF := Lib.hid hf; clear hf
  have HX0 := Lib.hid x0; clear x0
  go_wp2_with fail
  refine (Num_bad _ _ _ _ _ n _ HX0.out HN.out).mono ?_
  rintro e w2 ⟨rfl, vx, hx, hfx, hvx⟩
  have HX1 := Lib.hid (And.intro hx (And.intro hfx hvx)); clear hx hfx hvx
  go_wp2_with fail
  refine (Bytes_c _ _ _ _ _ _ HX1.out.1 (by simp)).mono ?_
  rintro e w3 ⟨vb, rfl, hb⟩
  simp only [if_true] at hb ⊢
  have HB0 := Lib.hid hb
  have hB : Fp Non w w3 := by
    have k1 : Fp Non w w2 := (HF.out.then ((Fp.refl Non _).alloc _)).trans HX1.out.2.1 (fun k hk => .inr (by
      rcases hk with rfl | hk
      · exact HF.out.size
      · cases hk))
    exact k1.then hb.fp
  have HB := Lib.hid hB; clear hB
  obtain ⟨aob, capb, rfl⟩ := hb.shape
  clear hb
  rcases hgd with g1 | ⟨g1, g2⟩
  all_goals (
    have z0 := Wr.new TW w3.heap.size w3 (Nat.le_refl _)
    have HZ0 := Lib.hid z0; clear z0
    go_wp2_with fail
    refine (Text_c _ _ _ _ s _ _ HZ0.out (by simp; omega)).mono ?_
    rintro e y1 ⟨rfl, vz, hz, hfz, hvz⟩
    rw [List.nil_append] at hz
    have hsz1 := hfz.size
    have HZ1 := Lib.hid (And.intro hz (And.intro hfz hvz)); clear hz hfz hvz
    go_wp2_with fail
    refine (Bytes_c _ _ _ _ _ _ HZ1.out.1 (by have := HT.out; omega)).mono ?_
    rintro e y2 ⟨vq, rfl, hq⟩
    simp only [Bool.false_eq_true, if_false] at hq ⊢
    have hsz2 := hq.fp.size
    obtain ⟨aoq, capq, rfl⟩ := hq.shape
    obtain ⟨gq, oq, rfl⟩ := hq.sl.some' HT.out.1
    have HQ := Lib.hid hq; clear hq
    have cm := cut_mod c (encT s).length HT.out.1
    have cj : c % (encT s).length < (encT s).length := Nat.mod_lt _ HT.out.1
    have HUP := Lib.hid (HQ.out.sl.upto (c % (encT s).length) (by omega))
    have eT := rText_cut s HT.out.2.2 (c % (encT s).length) cj
    have ln0 : (((encT s).length : Int) == 0) = false := beq_eq_false_iff_ne.2 (by have := HT.out.1; omega)
    have ln1 : (((encT s).length : Int) < 1) = False := eq_false (by have := HT.out.1; omega)
    have lcap : (encT s).length ≤ capq := by
      obtain ⟨ao', cap', e, h1, _, _⟩ := HQ.out.sl.ex
      injection e with e1 e2 e3
      subst e3; exact h1
    have ltl := HT.out.2.1
    have HET := Lib.hid eT; clear eT
    generalize hpt : (encT s).take (c % (encT s).length) = pt at HUP HET
    generalize hct : c % (encT s).length = ct at cm cj HUP hpt
    have hptl : pt.length ≤ 1000000 := by rw [← hpt, List.length_take]; omega
    obtain ⟨cm1, cm2⟩ := cm
    clear hpt hct
    generalize hLt : (encT s).length = LT at *
    have HLT := Lib.hid hLt; clear hLt
    have ccap : ct ≤ capq := by omega
    go_wp2_with fail
    refine (New_c y2.heap.size _ _ _ HUP.out (Nat.le_refl _)).mono ?_
    rintro e y3 ⟨bz, rfl, hbz, hr, hf3⟩
    have hsz3 := hf3.size
    have HR3 := Lib.hid (And.intro hr hf3); clear hr hf3
    go_wp2_with fail
    refine (RText_c _ _ _ _ HR3.out.1 (by simpa using hptl)).mono ?_
    rintro e y4 ⟨rfl, hr4⟩
    rw [HET.out] at hr4 ⊢
    have HR4 := Lib.hid hr4; clear hr4
    have hfin : Fp Non w y4 := by
      have k1 : Fp Non w y1 := (HB.out.then ((Fp.refl Non _).alloc _)).trans HZ1.out.2.1 (fun k hk => .inr (by
        rcases hk with rfl | hk
        · exact HB.out.size
        · cases hk))
      have k2 := k1.then HQ.out.fp
      have k3 := k2.then HR3.out.2
      exact k3.trans HR4.out.2 (fun k hk => .inr (by have := k2.size; omega))
    have HFIN := Lib.hid hfin; clear hfin
    go_wp2_with fail
    refine (RErr_c _ _ _ _ HR4.out.1).mono ?_
    rintro e y5 ⟨rfl, rfl⟩
    go_wp2
    go_ret
    exact ⟨rfl, HFIN.out⟩
  )

set_option maxHeartbeats 4000000 in
theorem PackCuts_in (n : Nat) (s : Bs) (c : Nat) (w : World) (hc : c ≤ 255) (hs : s.length ≤ 20000) (hn : n ≤ M) :
    Calls Try.prog 8 #[.int .i64 n, .string (B s), .int .u8 c] w fun e w' => e = .returned (.bool true) ∧ Fp Non w w' := by
  have hs1 : (20000 < s.length) = False := eq_false (by omega)
  have hs2 : ((20000 : Int) < (s.length : Int)) = False := eq_false (by omega)
  have hT : 0 < (encT s).length ∧ (encT s).length ≤ 30000 ∧ s.length ≤ M := by
    have h1 := enc_len s.length (by unfold M; omega)
    refine ⟨by unfold encT; simp; omega, by unfold encT; simp; omega, by unfold M; omega⟩
  have HT := Lib.hid hT; clear hT
  have g2 : ((n : Int) ≤ 281474976710656) = True := eq_true (by unfold M at hn; omega)
  have len := enc_len n hn
  have HN := Lib.hid hn; clear hn
  go_enter Try.func8, Try.ntmps8
  go_wp2_with fail
  refine (head_c w).mono ?_
  rintro e w1 ⟨rfl, hf⟩
  have x0 := Wr.new TW w1.heap.size w1 (Nat.le_refl _)
  have HF := Lib.hid hf; clear hf
  have HX0 := Lib.hid x0; clear x0
  go_wp2_with fail
  refine (Num_ok _ _ _ _ _ n _ HX0.out HN.out (by simp)).mono ?_
  rintro e w2 ⟨rfl, vx, hx, hfx, hvx⟩
  rw [List.nil_append] at hx
  have HX1 := Lib.hid (And.intro hx (And.intro hfx hvx)); clear hx hfx hvx
  go_wp2_with fail
  refine (Bytes_c _ _ _ _ _ _ HX1.out.1 (by omega)).mono ?_
  rintro e w3 ⟨vb, rfl, hb⟩
  simp only [Bool.false_eq_true, if_false] at hb ⊢
  have hsb := hb.fp.size
  have hB : Fp Non w w3 := by
    have k1 : Fp Non w w2 := (HF.out.then ((Fp.refl Non _).alloc _)).trans HX1.out.2.1 (fun k hk => .inr (by
      rcases hk with rfl | hk
      · exact HF.out.size
      · cases hk))
    exact k1.then hb.fp
  have HB1 := Lib.hid hB; clear hB
  obtain ⟨aob, capb, rfl⟩ := hb.shape
  obtain ⟨gb, ob, rfl⟩ := hb.sl.some' (by omega)
  have HBB := Lib.hid hb; clear hb
  have cm := cut_mod c (enc n).length (by omega)
  have cj : c % (enc n).length < (enc n).length := Nat.mod_lt _ (by omega)
  have HUB := Lib.hid (HBB.out.sl.upto (c % (enc n).length) (by omega))
  have eN : rNum ((enc n).take (c % (enc n).length), 0) M = (0, ([], 21)) := by
    unfold rNum; simp only [ne_eq, not_true_eq_false, if_false, nx_cut n HN.out _ cj M]
  rw [show ((M : Nat) : Int) = 281474976710656 from rfl] at eN
  have l0 : (((enc n).length : Int) == 0) = false := beq_eq_false_iff_ne.2 (by omega)
  have l1 : (((enc n).length : Int) < 1) = False := eq_false (by omega)
  have l7 : ((7 : Int) < ((enc n).length : Int)) = False := eq_false (by omega)
  have l7' : (7 < (enc n).length) = False := eq_false (by omega)
  have lcapb : (enc n).length ≤ capb := by
    obtain ⟨ao', cap', e, h1, _, _⟩ := HBB.out.sl.ex
    injection e with e1 e2 e3
    subst e3; exact h1
  have HEN := Lib.hid eN; clear eN
  generalize hpb : (enc n).take (c % (enc n).length) = pb at HUB HEN
  generalize hcb : c % (enc n).length = cb at cm cj HUB hpb
  have hpbl : pb.length ≤ 1000000 := by rw [← hpb, List.length_take]; omega
  obtain ⟨cb1, cb2⟩ := cm
  clear hpb hcb
  generalize hLb : (enc n).length = LB at *
  have HLB := Lib.hid (And.intro hLb len); clear hLb len
  have ccapb : cb ≤ capb := by omega
  go_wp2_with fail
  refine (New_c w3.heap.size _ _ _ HUB.out (Nat.le_refl _)).mono ?_
  rintro e w4 ⟨br, rfl, hbr, hr, hf4⟩
  have hs4 := hf4.size
  have HR := Lib.hid (And.intro hr hf4); clear hr hf4
  go_wp2_with fail
  refine (RNum_c _ _ _ 281474976710656 _ HR.out.1 (by simpa using hpbl)).mono ?_
  rintro e w5 ⟨rfl, hr5⟩
  rw [HEN.out] at hr5 ⊢
  have HR5 := Lib.hid hr5; clear hr5
  have hB : Fp Non w w5 := by
    have k4 := HB1.out.then HR.out.2
    exact k4.trans HR5.out.2 (fun k hk => .inr (by have := HB1.out.size; omega))
  have HB := Lib.hid hB; clear hB
  go_wp2_with fail
  refine (RErr_c _ _ _ _ HR5.out.1).mono ?_
  rintro e w5' ⟨rfl, rfl⟩
  have z0 := Wr.new TW w5.heap.size w5 (Nat.le_refl _)
  have HZ0 := Lib.hid z0; clear z0
  go_wp2_with fail
  refine (Text_c _ _ _ _ s _ _ HZ0.out (by simp; omega)).mono ?_
  rintro e y1 ⟨rfl, vz, hz, hfz, hvz⟩
  rw [List.nil_append] at hz
  have hsz1 := hfz.size
  have HZ1 := Lib.hid (And.intro hz (And.intro hfz hvz)); clear hz hfz hvz
  go_wp2_with fail
  refine (Bytes_c _ _ _ _ _ _ HZ1.out.1 (by have := HT.out; omega)).mono ?_
  rintro e y2 ⟨vq, rfl, hq⟩
  simp only [Bool.false_eq_true, if_false] at hq ⊢
  have hsz2 := hq.fp.size
  obtain ⟨aoq, capq, rfl⟩ := hq.shape
  obtain ⟨gq, oq, rfl⟩ := hq.sl.some' HT.out.1
  have HQ := Lib.hid hq; clear hq
  have cm := cut_mod c (encT s).length HT.out.1
  have cj : c % (encT s).length < (encT s).length := Nat.mod_lt _ HT.out.1
  have HUP := Lib.hid (HQ.out.sl.upto (c % (encT s).length) (by omega))
  have eT := rText_cut s HT.out.2.2 (c % (encT s).length) cj
  have ln0 : (((encT s).length : Int) == 0) = false := beq_eq_false_iff_ne.2 (by have := HT.out.1; omega)
  have ln1 : (((encT s).length : Int) < 1) = False := eq_false (by have := HT.out.1; omega)
  have lcap : (encT s).length ≤ capq := by
    obtain ⟨ao', cap', e, h1, _, _⟩ := HQ.out.sl.ex
    injection e with e1 e2 e3
    subst e3; exact h1
  have ltl := HT.out.2.1
  have HET := Lib.hid eT; clear eT
  generalize hpt : (encT s).take (c % (encT s).length) = pt at HUP HET
  generalize hct : c % (encT s).length = ct at cm cj HUP hpt
  have hptl : pt.length ≤ 1000000 := by rw [← hpt, List.length_take]; omega
  obtain ⟨cm1, cm2⟩ := cm
  clear hpt hct
  generalize hLt : (encT s).length = LT at *
  have HLT := Lib.hid hLt; clear hLt
  have ccap : ct ≤ capq := by omega
  go_wp2_with fail
  refine (New_c y2.heap.size _ _ _ HUP.out (Nat.le_refl _)).mono ?_
  rintro e y3 ⟨bz, rfl, hbz, hr, hf3⟩
  have hsz3 := hf3.size
  have HR3 := Lib.hid (And.intro hr hf3); clear hr hf3
  go_wp2_with fail
  refine (RText_c _ _ _ _ HR3.out.1 (by simpa using hptl)).mono ?_
  rintro e y4 ⟨rfl, hr4⟩
  rw [HET.out] at hr4 ⊢
  have HR4 := Lib.hid hr4; clear hr4
  have hfin : Fp Non w y4 := by
    have k1 : Fp Non w y1 := (HB.out.then ((Fp.refl Non _).alloc _)).trans HZ1.out.2.1 (fun k hk => .inr (by
      rcases hk with rfl | hk
      · exact HB.out.size
      · cases hk))
    have k2 := k1.then HQ.out.fp
    have k3 := k2.then HR3.out.2
    exact k3.trans HR4.out.2 (fun k hk => .inr (by have := k2.size; omega))
  have HFIN := Lib.hid hfin; clear hfin
  go_wp2_with fail
  refine (RErr_c _ _ _ _ HR4.out.1).mono ?_
  rintro e y5 ⟨rfl, rfl⟩
  go_wp2
  go_ret
  exact ⟨rfl, HFIN.out⟩

theorem PackCuts_c (n : Int) (s : Bs) (c : Int) (w : World) (_ : s.length ≤ 9223372036854775807) (hc : 0 ≤ c ∧ c ≤ 255) :
    Calls Try.prog 8 #[.int .i64 n, .string (B s), .int .u8 c] w fun e w' => e = .returned (.bool true) ∧ Below w.heap.size w w' := by
  obtain ⟨k, rfl⟩ := Int.eq_ofNat_of_zero_le hc.1
  have kk : Calls Try.prog 8 #[.int .i64 n, .string (B s), .int .u8 k] w fun e w' => e = .returned (.bool true) ∧ Fp Non w w' := by
    by_cases hs : 20000 < s.length
    · exact PackCuts_long n s k w hs
    · by_cases hn : n < 0 ∨ (M : Int) < n
      · exact PackCuts_out n s k w (by omega) (by omega) hn
      · obtain ⟨x, rfl⟩ := Int.eq_ofNat_of_zero_le (show 0 ≤ n by omega)
        exact PackCuts_in x s k w (by omega) (by omega) (by omega)
  exact kk.mono fun e w' h => ⟨h.1, h.2.below (fun _ h => h.elim) (Nat.le_refl _)⟩
end Go.Proofs.Ytidkihadlhkbkaa
