/- WalRoom: the law's walk. -/
import Derived.Test.YtekhpmeadebdkaaHd
namespace Go.Proofs.Ytekhpmeadebdkaa
set_option maxRecDepth 20000
open Go.RowKit Pm

theorem usd_rep (b : Bs) (k : Nat) : usd (List.replicate k b) = k * ln b.length := by
  induction k with
  | zero => simp [usd_nil]
  | succ k ih => rw [List.replicate_succ, usd_cons, ih, Nat.add_mul]; omega

/-- Behind k records; the one that is appended lies in block B. -/
structure RmM (b g m q S B : Nat) (w0 : World) (l : Lg) (ac : Nat) (w : World) : Prop where
  ex : ∃ s v, Lw w0.heap.size b g m q s l v w ∧ s.acts ≤ ac ∧ hf s.cur = S ∧ ∀ k, ownL q v k → k ≠ B
  fp : Fp Non w0 w
  sl : ∀ n, n = 0 ∨ B < w.heap.size
theorem RmM.next {b g m q S B L : Nat} {w0 w w' : World} {l l' : Lg} {ac n : Nat} {s : Dk} {v : Value} (f : Fp Non w0 w) (hl : Lw w0.heap.size b g m q s l v w) (ha : s.acts ≤ ac) (hS : hf s.cur = S) (hB : ∀ k, ownL q v k → k ≠ B) (h3 : ∀ k, own3 b g m k → k ≠ B) (hlt : B < w.heap.size) (hs : Sl w (.slice (some ⟨B, 0, none⟩) L L) (zr L)) (h : LgS w0.heap.size b g m q s l v w l' n w') :
    RmM b g m q S B w0 l' (ac + n) w' ∧ Sl w' (.slice (some ⟨B, 0, none⟩) L L) (zr L) := by
  obtain ⟨s', v', hl', ha', hc', hat⟩ := h.ex
  refine ⟨⟨⟨s', v', hl', by omega, by rw [hf_len hc']; exact hS, fun k hk => ?_⟩, h.non hl f, fun _ => .inr (Nat.lt_of_lt_of_le hlt h.fp.size)⟩, hs.keep h.fp (fun k hk ho => ?_)⟩
  · rcases hk with rfl | hk
    · exact hB _ (.inl rfl)
    · rcases hat with e | e
      · rw [e] at hk; exact hB k (.inr hk)
      · have := e k hk; omega
  · simp [Value.ownBlock] at hk
    subst hk
    rcases ho with ho | ho
    · exact h3 _ ho rfl
    · exact hB _ ho rfl

theorem last_rep (b : Bs) (k : Nat) : List.replicate k b ++ [b] = List.replicate (k + 1) b := by
  rw [List.replicate_succ']

set_option maxHeartbeats 8000000 in
theorem WalRoom_c (x y : Int) (w : World) (hx : 0 ≤ x ∧ x ≤ 65535) (hy : 0 ≤ y ∧ y ≤ 65535) :
    Calls Try.prog 7 #[.int .u16 x, .int .u16 y] w fun e w' => e = .returned (.bool true) ∧ Fp Non w w' := by
  obtain ⟨a, rfl⟩ := Int.eq_ofNat_of_zero_le hx.1
  obtain ⟨c, rfl⟩ := Int.eq_ofNat_of_zero_le hy.1
  obtain ⟨r, hr⟩ : ∃ r, r = a % 300 := ⟨_, rfl⟩
  obtain ⟨L, hL⟩ : ∃ L, L = c % 200 := ⟨_, rfl⟩
  have t1 : ((a : Nat) : Int).tmod 300 = (r : Int) := by rw [Int.tmod_eq_emod_of_nonneg (by omega)]; omega
  have t1' : ((a : Nat) : Int) % 300 = (r : Int) := by omega
  have t2 : ((c : Nat) : Int).tmod 200 = (L : Int) := by rw [Int.tmod_eq_emod_of_nonneg (by omega)]; omega
  have t2' : ((c : Nat) : Int) % 200 = (L : Int) := by omega
  obtain ⟨n, hn⟩ : ∃ n, n = r + 3 := ⟨_, rfl⟩
  have hnr : (3 : Int) + (r : Int) = (n : Int) := by omega
  obtain ⟨d, hd⟩ : ∃ d, d = 1 + (L + 15) / 16 := ⟨_, rfl⟩
  obtain ⟨u, hu⟩ : ∃ u, u = (L + 15) / 16 := ⟨_, rfl⟩
  obtain ⟨h, hh⟩ : ∃ h, h = (n - 1) / 2 := ⟨_, rfl⟩
  obtain ⟨k, hk⟩ : ∃ k, k = h / d := ⟨_, rfl⟩
  have t3 : ((L : Int) + 15).tdiv 16 = (u : Int) := by rw [Int.tdiv_eq_ediv_of_nonneg (by omega)]; omega
  have t3' : ((L : Int) + 15) / 16 = (u : Int) := by omega
  have hdu : (1 : Int) + (u : Int) = (d : Int) := by omega
  have t4 : ((n : Int) - 1).tdiv 2 = (h : Int) := by rw [Int.tdiv_eq_ediv_of_nonneg (by omega)]; omega
  have t4' : ((n : Int) - 1) / 2 = (h : Int) := by omega
  have t5 : ((h : Int)).tdiv (d : Int) = (k : Int) := by rw [Int.tdiv_eq_ediv_of_nonneg (by omega), hk]; exact (Int.natCast_ediv h d).symm
  have t5' : ((h : Int)) / (d : Int) = (k : Int) := by rw [hk]; exact (Int.natCast_ediv h d).symm
  have q0 : ((d : Int) = 0) = False := eq_false (by omega)
  have q00 : (d = 0) = False := eq_false (by omega)
  have hLb : L ≤ 199 := by omega
  have hnb : n ≤ 302 ∧ 3 ≤ n := by omega
  have hkb : k ≤ h := by rw [hk]; exact Nat.div_le_self _ _
  have hhb : h ≤ 151 := by omega
  have hlnL : ln L = d * 16 := by unfold ln up; omega
  have hkd : k * d ≤ h := by rw [hk]; exact Nat.div_mul_le_self h d
  have hkd2 : h < (k + 1) * d := by
    have := Nat.lt_div_mul_add (a := h) (b := d) (by omega)
    rw [← hk] at this
    rw [Nat.add_mul]; omega
  have hS : hf (zr (n * 16)) = h * 16 := by unfold hf; rw [zr_len]; omega
  have e1 : ∀ j, j < k → j * ln L + ln L ≤ h * 16 := fun j hj => by
    have h1 : (j + 1) * d ≤ k * d := Nat.mul_le_mul_right d hj
    have h2 : j * ln L + ln L = (j + 1) * d * 16 := by rw [hlnL, Nat.add_mul, Nat.add_mul, Nat.one_mul, ← Nat.mul_assoc]
    omega
  have e2 : h * 16 < k * ln L + ln L := by
    have h2 : k * ln L + ln L = (k + 1) * d * 16 := by rw [hlnL, Nat.add_mul, Nat.add_mul, Nat.one_mul, ← Nat.mul_assoc]
    omega
  have e3 : k = 0 → h * 16 < ln L := fun e => by rw [e] at e2; omega
  have e4 : k ≠ 0 → ln L ≤ h * 16 := fun e => by have := e1 0 (by omega); omega
  have HE := Lib.hid (And.intro e1 (And.intro e2 (And.intro e3 (And.intro e4 hS))))
  have HQ := Lib.hid (And.intro hnb (And.intro hkb (And.intro hlnL (And.intro hr (And.intro hL (And.intro hn (And.intro hd (And.intro hu (And.intro hh hk)))))))))
  have hkb2 : k ≤ 151 := by omega
  have hdb : d ≤ 20 := by omega
  have hub : u ≤ 20 := by omega
  have hnb2 : n ≤ 302 := by omega
  have hrb : r ≤ 300 := by omega
  clear e1 e2 e3 e4 hS hnb hkb hlnL hr hL hn hd hu hh hk hkd hkd2
  go_enter Try.func7, Try.ntmps7
  go_wp2_with fail
  refine (head_c w).mono ?_
  rintro e w1 ⟨rfl, hf1⟩
  have hls := lstart_c n (by have := HQ.out.1; omega) (by have := HQ.out.1; omega) w1
  have HLS := Lib.hid hls
  have HF1 := Lib.hid hf1
  clear hls hf1
  go_wp2_with fail
  refine HLS.out.mono ?_
  rintro e w2 ⟨b, g, m, q, v0, rfl, hl2, hf2⟩
  have hmk := make_bytes w2 L (by omega)
  obtain ⟨W2, hW2⟩ : ∃ W2, W2 = w2.alloc (.cells (Lib.byteCells (List.replicate L 0)).toArray 5) := ⟨_, rfl⟩
  have hz := made_sl w2 L (by omega)
  rw [← hW2] at hmk hz
  have hfw : Fp Non w2 W2 := by rw [hW2]; exact (Fp.refl Non w2).alloc _
  have HMK := Lib.hid hmk
  have HZ := Lib.hid hz
  have hb0 : ∀ k, own3 b g m k → k < w2.heap.size := fun k hk => (hl2.d.all k hk).2
  have HB0 := Lib.hid hb0
  have hl2' := hl2.non hfw
  have hown : ∀ k, ownL q v0 k → k ≠ w2.heap.size := fun k hk => by have := (hl2.lg.all k hk).2; omega
  have hd3 : ∀ k, own3 b g m k → k ≠ w2.heap.size := fun k hk => by have := hb0 k hk; omega
  have hBlt : w2.heap.size < W2.heap.size := hz.below _ rfl
  have H0 : Hid (RmM b g m q (h * 16) w2.heap.size w1 ⟨0, List.replicate 0 (zr L)⟩ (4 * 0) W2 ∧ Sl W2 (.slice (some ⟨w2.heap.size, 0, none⟩) L L) (zr L)) := ⟨⟨⟨_, v0, hl2', Nat.zero_le _, HE.out.2.2.2.2, hown⟩, hf2.then hfw, fun _ => .inr hBlt⟩, hz⟩
  have HD3 := Lib.hid hd3
  clear hmk hz hfw hb0 hl2 hf2 hW2 hl2' hown hd3 hBlt
  go_wp2_with (refine wpList_make_run rfl 24 _ _ rfl _ _ _ rfl rfl HMK.out ?_)
  generalize w2.heap.size = B at *
  go_loopw [13] (fun i wr => ∃ j : Nat, j ≤ k ∧ i = .int .i64 j ∧ Hid (RmM b g m q (h * 16) B w1 ⟨0, List.replicate j (zr L)⟩ (4 * j) wr ∧ Sl wr (.slice (some ⟨B, 0, none⟩) L L) (zr L))) (fun i _ => k - (RowKit.intOf i).toNat)
  case atStart => exact ⟨0, Nat.zero_le _, rfl, H0⟩
  case round =>
    obtain ⟨j, hj, rfl, hR⟩ := hrel
    obtain ⟨s, v, hl, hac, hSS, hvB⟩ := hR.out.1.ex
    have hBlt : B < _ := (hR.out.1.sl 1).resolve_left (by decide)
    have happ := hl.append _ _ hR.out.2 (fun k hk ho => by simp [Value.ownBlock] at hk; exact HD3.out k ho hk.symm) (by omega) (by rw [zr_len]; omega)
    have hus : usd (List.replicate j (zr L)) = j * ln L := by rw [usd_rep, zr_len]
    by_cases hlt : j < k
    · have q1 : ((j : Int) < (k : Int)) = True := eq_true (by omega)
      have HA := Lib.hid happ
      have HV := Lib.hid (And.intro hl (And.intro hac (And.intro hSS (And.intro hvB (And.intro hBlt hus)))))
      have HJ := Lib.hid (HE.out.1 j hlt)
      clear happ hl hac hSS hvB hBlt hus
      go_wp2_with fail
      refine HA.out.mono ?_
      rintro e w3 (⟨hful, rfl, _⟩ | ⟨_, rfl, hS⟩)
      · exfalso
        rw [HV.out.2.2.1, zr_len] at hful
        have h1 : h * 16 < usd (List.replicate j (zr L)) + ln L := hful
        rw [HV.out.2.2.2.2.2] at h1
        have h2 := HJ.out
        exact absurd h1 (Nat.not_lt.2 h2)
      have hnx := RmM.next hR.out.1.fp HV.out.1 HV.out.2.1 HV.out.2.2.1 HV.out.2.2.2.1 HD3.out HV.out.2.2.2.2.1 hR.out.2 hS
      have e1 : (⟨0, List.replicate j (zr L) ++ [zr L]⟩ : Lg) = ⟨0, List.replicate (j + 1) (zr L)⟩ := by rw [last_rep]
      rw [e1] at hnx
      have HNX := Lib.hid hnx
      clear hnx hS e1
      go_wp2
      go_roundw
      case rel => exact ⟨j + 1, by omega, by go_num, HNX⟩
      case measure => simp [RowKit.intOf]; omega
    · have hjk : j = k := by omega
      subst hjk
      have q1 : ((j : Int) < (j : Int)) = False := eq_false (by omega)
      have HA := Lib.hid happ
      have HV := Lib.hid (And.intro hl (And.intro hac (And.intro hSS (And.intro hvB (And.intro hBlt hus)))))
      have HJJ := Lib.hid hkb2
      clear happ hl hac hSS hvB hBlt hus hlt hj
      go_wp2_with fail
      refine HA.out.mono ?_
      rintro e w3 (⟨_, rfl, hS⟩ | ⟨hok, rfl, _⟩)
      rotate_left
      · exfalso
        rw [HV.out.2.2.1, zr_len] at hok
        have h1 : usd (List.replicate j (zr L)) + ln L ≤ h * 16 := hok
        rw [HV.out.2.2.2.2.2] at h1
        exact absurd h1 (Nat.not_le.2 HE.out.2.1)
      have hnx := RmM.next hR.out.1.fp HV.out.1 HV.out.2.1 HV.out.2.2.1 HV.out.2.2.2.1 HD3.out HV.out.2.2.2.2.1 hR.out.2 hS
      have hsl3 := hnx.2
      obtain ⟨s3, v3, hl3, hac3, hS3, hvB3⟩ := hnx.1.ex
      have hf3 := hnx.1.fp
      have hfit : usd (List.replicate j (zr L)) ≤ h * 16 := by rw [← hS3]; exact hl3.gd.has.fits.1
      have hrc := Records_c hl3.lg (by show usd (List.replicate j (zr L)) ≤ _; omega)
      have HRC := Lib.hid hrc
      have H3 := Lib.hid (And.intro hl3 (And.intro hsl3 (And.intro hac3 (And.intro hS3 hf3))))
      clear hnx hS hsl3 hl3 hac3 hS3 hvB3 hf3 hfit hrc
      go_wp2_with fail
      refine HRC.out.mono ?_
      rintro e w4 ⟨u4, rfl, hf4, hb4⟩
      obtain ⟨uao, ucap, rfl⟩ := hb4.shape
      have hl4 := H3.out.1.non hf4
      have hst := hl4.start _ _ (H3.out.2.1.keep hf4 (fun _ _ h => h)) (fun k hk ho => by simp [Value.ownBlock] at hk; exact HD3.out k ho hk.symm) (by have := H3.out.2.2.1; omega) (by rw [zr_len]; omega)
      have HST := Lib.hid hst
      have H4 := Lib.hid (And.intro hl4 (H3.out.2.2.2.2.then hf4))
      have hrl : ((List.replicate j (zr L)).length : Int) = (j : Int) := by rw [List.length_replicate]
      have hrn : (⟨0, List.replicate j (zr L)⟩ : Lg).rs.length = j := List.length_replicate
      rw [hrn]
      clear hf4 hb4 hl4 hst hrl hrn
      go_wp2_with fail
      refine HST.out.mono ?_
      by_cases h0 : j = 0
      · rintro e w5 (⟨_, rfl, hS⟩ | ⟨hok, rfl, _⟩)
        rotate_left
        · exfalso
          rw [H3.out.2.2.2.1, zr_len] at hok
          exact absurd hok (Nat.not_le.2 (HE.out.2.2.1 h0))
        have HF5 := Lib.hid (hS.non H4.out.1 H4.out.2)
        have z1 : ((j : Int) = 0) = True := eq_true (by omega)
        have z2 : ((j : Int) == 0) = true := by rw [h0]; rfl
        clear hS h0
        go_wp2
        all_goals go_ret
        all_goals exact ⟨rfl, HF1.out.then HF5.out⟩
      · rintro e w5 (⟨hful, rfl, _⟩ | ⟨_, rfl, hS⟩)
        · exfalso
          rw [H3.out.2.2.2.1, zr_len] at hful
          exact absurd hful (Nat.not_lt.2 (HE.out.2.2.2.1 h0))
        have hf5 := hS.non H4.out.1 H4.out.2
        obtain ⟨s5, v5, hl5, _, _, _⟩ := hS.ex
        have hrc := Records_c hl5.lg (by show ln (zr L).length + 0 ≤ _; rw [zr_len]; unfold ln; have := (up_le L).2; omega)
        have HRC5 := Lib.hid hrc
        have HF5 := Lib.hid hf5
        have z1 : ((j : Int) = 0) = False := eq_false (by omega)
        have z2 : ((j : Int) == 0) = false := beq_eq_false_iff_ne.2 (by omega)
        clear hS h0 hf5 hl5 hrc
        go_wp2_with fail
        refine HRC5.out.mono ?_
        rintro e w6 ⟨u6, rfl, hf6, hb6⟩
        obtain ⟨xao, xcap, rfl⟩ := hb6.shape
        have HF6 := Lib.hid hf6
        clear hf6 hb6
        go_wp2
        all_goals go_ret
        all_goals exact ⟨rfl, (HF1.out.then HF5.out).then HF6.out⟩
end Go.Proofs.Ytekhpmeadebdkaa
