/- WalAgain: the law's walk. -/
import Derived.Test.YtekhpmeadebdkaaHd
import Derived.Test.YtekhpmeadebdkaaIb
namespace Go.Proofs.Ytekhpmeadebdkaa
set_option maxRecDepth 20000
open Go.RowKit Pm

/-- Ahead of round j. -/
structure AgM (w : World) (lo b g m q : Nat) (j : Nat) (wr : World) : Prop where
  ex : ∃ s l v, Lw lo b g m q s l v wr ∧ s.acts ≤ 4 * j
  fp : Fp Non w wr

theorem room_ok {s : Dk} {l : Lg} {L : Nat} (h : usd l.rs + ln L ≤ hf s.cur) (hL : L ≤ 16384) : (lRoom s l < (L : Int)) = False := eq_false (by
  unfold lRoom
  have := (up_le L).1
  unfold ln at h
  omega)
theorem room_full {s : Dk} {l : Lg} {L : Nat} (h : hf s.cur < usd l.rs + ln L) (h0 : L ≠ 0) : ((L : Int) ≤ lRoom s l) = False := eq_false (by
  unfold lRoom
  have h1 := hf_mod s.cur
  have h2 := usd_mod l.rs
  have h3 := up_le L
  have h4 := up_mod L
  unfold ln at h
  omega)

set_option maxHeartbeats 16000000 in
theorem WalAgain_c (x : Int) (v : Value) (ls : List Bs) (w : World) (hx : 0 ≤ x ∧ x ≤ 65535) (hv : Bv (fun k => k < w.heap.size) w v ls) :
    Calls Try.prog 5 #[.int .u16 x, v] w fun e w' => e = .returned (.bool true) ∧ Fp Non w w' := by
  obtain ⟨a, rfl⟩ := Int.eq_ofNat_of_zero_le hx.1
  obtain ⟨r, hr⟩ : ∃ r, r = a % 300 := ⟨_, rfl⟩
  have t1 : ((a : Nat) : Int).tmod 300 = (r : Int) := by rw [Int.tmod_eq_emod_of_nonneg (by omega)]; omega
  have t1' : ((a : Nat) : Int) % 300 = (r : Int) := by omega
  obtain ⟨n, hn⟩ : ∃ n, n = r + 3 := ⟨_, rfl⟩
  have hnr : (3 : Int) + (r : Int) = (n : Int) := by omega
  have hrb : r ≤ 300 := by omega
  have hnb : 3 ≤ n ∧ n ≤ 302 := by omega
  obtain ⟨vao, vcap, rfl, hc⟩ := hv.ex
  obtain ⟨N, hN⟩ : ∃ N, N = ls.length := ⟨_, rfl⟩
  have HV := Lib.hid (And.intro hv hN)
  have HC := Lib.hid hc
  have HNB := Lib.hid hnb
  rw [← hN]
  by_cases h60 : 60 < N
  · have q1 : ((60 : Int) < (N : Int)) = True := eq_true (by omega)
    have hls := fun w => lstart_c n HNB.out.1 (by have := HNB.out.2; omega) w
    have HLS := Lib.hid hls
    clear hls hv hc hN hr hn hnb h60
    go_enter Try.func5, Try.ntmps5
    go_wp2_with fail
    refine (head_c w).mono ?_
    rintro e w1 ⟨rfl, hf1⟩
    have HF1 := Lib.hid hf1
    clear hf1
    go_wp2_with fail
    refine (HLS.out w1).mono ?_
    rintro e w2 ⟨b, g, m, q, v0, rfl, hl2, hf2⟩
    have HF2 := Lib.hid hf2
    clear hl2 hf2
    go_wp2
    go_ret
    exact ⟨rfl, HF1.out.then HF2.out⟩
  have q1 : ((60 : Int) < (N : Int)) = False := eq_false (by omega)
  have hN60 : N ≤ 60 := by omega
  have hls := fun w => lstart_c n HNB.out.1 (by have := HNB.out.2; omega) w
  have HLS := Lib.hid hls
  clear hls hv hc hN hr hn hnb h60
  go_enter Try.func5, Try.ntmps5
  go_wp2_with fail
  refine (head_c w).mono ?_
  rintro e w1 ⟨rfl, hf1⟩
  have HF1 := Lib.hid hf1
  clear hf1
  go_wp2_with fail
  refine (HLS.out w1).mono ?_
  rintro e w2 ⟨b, g, m, q, v0, rfl, hl2, hf2⟩
  have H0 : Hid (AgM w w1.heap.size b g m q 0 w2) := ⟨⟨_, _, v0, hl2, Nat.zero_le _⟩, HF1.out.then hf2⟩
  have HLO := Lib.hid HF1.out.size
  clear hl2 hf2
  go_wp2_with fail
  go_loopw [9] (fun i wr => ∃ j : Nat, j ≤ N ∧ i = .int .i64 j ∧ Hid (AgM w w1.heap.size b g m q j wr)) (fun i _ => N - (RowKit.intOf i).toNat)
  case atStart => exact ⟨0, Nat.zero_le _, rfl, H0⟩
  case round =>
    obtain ⟨j, hj, rfl, hR⟩ := hrel
    by_cases hlt : j < N
    · have hjl : j < ls.length := by rw [← HV.out.2]; exact hlt
      obtain ⟨ga, oa, rfl, _, hcell⟩ := HC.out (by omega)
      obtain ⟨xv, hxc, hxs, hxD⟩ := hcell j hjl
      obtain ⟨bs, hbs⟩ : ∃ bs, bs = ls[j] := ⟨_, rfl⟩
      rw [← hbs] at hxs hxD
      obtain ⟨xao, xcap, rfl⟩ := hxs.shape
      obtain ⟨L, hL⟩ : ∃ L, L = bs.length := ⟨_, rfl⟩
      rw [← hL] at hxc hxs hxD
      have HCJ := Lib.hid hxc
      have HXS := Lib.hid (And.intro hxs (And.intro hxD hL))
      obtain ⟨s, l, v3, hl, hac⟩ := hR.out.ex
      have HLR := Lib.hid (And.intro hl hac)
      have hcw := hR.out.fp.cell hxc (fun h => h)
      have hown : ∀ k, own3 b g m k → k < wr.heap.size := fun k hk => (hl.d.all k hk).2
      have hownl : ∀ k, ownL q v3 k → k < wr.heap.size := fun k hk => (hl.lg.all k hk).2
      have HOWN := Lib.hid hown
      have HOWL := Lib.hid hownl
      have hob : ∀ k, own3 b g m k ∨ ownL q v3 k → k < wr.heap.size := fun k hk => hk.elim (hown k) (hownl k)
      have HOB := Lib.hid hob
      clear hob
      have hww : w1.heap.size ≤ wr.heap.size := Nat.le_trans hl.d.low.1 (Nat.le_of_lt (hl.d.all b (.inl rfl)).2)
      have HWW := Lib.hid hww
      have z0 : ((j : Int) < (N : Int)) = True := eq_true (by omega)
      have z00 : (j < N) = True := eq_true hlt
      by_cases hbig : 6000 < L
      · have z1 : ((6000 : Int) < (L : Int)) = True := eq_true (by omega)
        clear hl hac hxc hxs hxD hcell hown hownl hww hbs hL hbig hjl
        go_wp2
        go_ret
        exact ⟨rfl, hR.out.fp⟩
      · have z1 : ((6000 : Int) < (L : Int)) = False := eq_false (by omega)
        have hL6 : L ≤ 6000 := by omega
        have hus : usd l.rs ≤ 65536 := by have h1 := hl.gd.has.fits.1; have h2 := (hl.gd.lk.few hl.gd.dry.rt).2; omega
        have hrc := Records_c hl.lg (by omega)
        have HRC := Lib.hid hrc
        have HUS := Lib.hid hus
        clear hl hac hxc hxs hxD hcell hown hownl hww hbs hL hbig hjl hrc hus
        go_wp2_with fail
        refine HRC.out.mono ?_
        rintro e w2 ⟨u2, rfl, hf2, hb2⟩
        have H02 := Lib.hid hf2.size
        have hl2 := HLR.out.1.non hf2
        have hrm := Room_c hl2.d hl2.lg hl2.gd.lk
        obtain ⟨ρ, hρ⟩ : ∃ ρ : Int, ρ = lRoom s l := ⟨_, rfl⟩
        rw [← hρ] at hrm
        have hfw2 : Fp Non w w2 := hR.out.fp.then hf2
        have c2 : w2.cell? ⟨ga, oa + j, none⟩ = some (.slice xao L xcap) := hfw2.cell HCJ.out (fun h => h)
        have hse : Src b g m w2 (.slice xao L xcap) bs := Src.of_se (HXS.out.1.keep hfw2 (fun _ _ _ h => h)) (fun h0 k hk ho => by have h1 := HXS.out.2.1 (by rw [HXS.out.2.2]; exact h0) k hk; have h2 := (HLR.out.1.d.all k ho).1; have h3 := HLO.out; omega)
        have happ := hl2.append _ bs hse (by have := HLR.out.2; omega) (by rw [← HXS.out.2.2]; omega)
        rw [← HXS.out.2.2] at happ
        obtain ⟨uao2, ucap2, rfl⟩ := hb2.shape
        have HRM := Lib.hid hrm
        have HAP := Lib.hid happ
        have H2 := Lib.hid (And.intro hl2 (And.intro hfw2 (And.intro hb2 hρ)))
        clear hf2 hb2 hl2 hrm hfw2 hse happ hρ
        go_wp2_with fail
        refine HRM.out.mono ?_
        rintro e w' ⟨rfl, hw'⟩
        obtain rfl := hw'.symm
        clear hw'
        go_wp2_with fail
        refine HAP.out.mono ?_
        rintro e w3 (⟨hful, rfl, hS⟩ | ⟨hfit, rfl, hS⟩)
        · obtain ⟨s6, v6, hl6, hac6, _, _⟩ := hS.ex
          have hf3 : Fp Non w w3 := H2.out.2.1.trans hS.fp (fun k hk => .inr (by
            have h3 := HLO.out
            rcases hk with hk | hk
            · have := (HLR.out.1.d.all k hk).1; omega
            · have := (HLR.out.1.lg.all k hk).1; omega))
          have hb3 := H2.out.2.2.1.keep hS.fp (fun k hk ho => by have h1 := (H2.out.2.2.1.block k hk).1; have h2 := HOB.out k ho; omega) (fun k hk ho => by have h1 := hk.1; have h2 := HOB.out k ho; omega)
          have HU4 : Hid (Bv (fun k => k < w.heap.size ∨ wr.heap.size ≤ k) w3 (.slice uao2 l.rs.length ucap2) l.rs) := hb3.view (fun k hk => .inr hk.1) (fun k hk => .inr (hb3.block k hk).1)
          have HF4 := Lib.hid hf3
          have HL4 := Lib.hid (And.intro hl6 (show s6.acts ≤ 4 * (j + 1) by have := HLR.out.2; omega))
          have c4 : w3.cell? ⟨ga, oa + j, none⟩ = some (.slice xao L xcap) := hf3.cell HCJ.out (fun h => h)
          by_cases hL0 : L = 0
          · have z3 : ((0 : Int) < (L : Int)) = False := eq_false (by omega)
            have z3n : (0 < L) = False := eq_false (by omega)
            clear hS hl6 hac6 hf3 hb3 hful hL0
            have hrc := Records_c HL4.out.1.lg (by show usd l.rs ≤ _; have h1 := HL4.out.1.gd.has.fits.1; have h2 := (HL4.out.1.gd.lk.few HL4.out.1.gd.dry.rt).2; have h3 : usd l.rs ≤ hf s6.cur := h1; omega)
            have HRC5 := Lib.hid hrc
            clear hrc
            go_wp2_with fail
            refine HRC5.out.mono ?_
            rintro e w5 ⟨u5, rfl, hf5, hb5⟩
            have hvw : Bv (fun _ => True) w5 u5 l.rs := hb5.view (fun _ _ => trivial) (fun _ _ => trivial)
            obtain ⟨xao5, xcap5, rfl⟩ := hb5.shape
            have hu5 := HU4.out.keep hf5 (fun _ _ h => h)
            have hrl : l.rs.length ≤ 1000000 := by have h1 := usd_ge l.rs; have h2 := HL4.out.1.gd.has.fits.1; have h3 := (HL4.out.1.gd.lk.few HL4.out.1.gd.dry.rt).2; have h4 : usd l.rs ≤ hf s6.cur := h2; omega
            have hsame := Same_c _ _ _ _ w5 hvw hu5 hrl
            have hdt : decide (l.rs = l.rs) = true := decide_eq_true rfl
            rw [hdt] at hsame
            skip
            have HSM := Lib.hid hsame
            have H5 := Lib.hid (And.intro (HF4.out.then hf5) (And.intro (HL4.out.1.non hf5) (And.intro hu5 hrl)))
            clear hvw hu5 hsame hf5 hb5 hdt hrl
            go_wp2_with fail
            refine HSM.out.mono ?_
            rintro e w6 ⟨rfl, hf6⟩
            have c6 : w6.cell? ⟨ga, oa + j, none⟩ = some (.slice xao L xcap) := (H5.out.1.then hf6).cell HCJ.out (fun h => h)
            have hl6 := H5.out.2.1.non hf6
            have hac := Acts_c hl6.d
            have hos := open_s hl6.d hl6.gd.dry hl6.gd.has (by have := HL4.out.2; omega)
            have HAC6 := Lib.hid hac
            have HOS := Lib.hid hos
            have H6 := Lib.hid (And.intro hl6 (And.intro (H5.out.1.then hf6) (H5.out.2.2.1.keep hf6 (fun _ _ h => h))))
            clear hl6 hac hos hf6
            go_wp2_with fail
            refine HAC6.out.mono ?_
            rintro e w' ⟨rfl, hw'⟩
            obtain rfl := hw'.symm
            clear hw'
            go_wp2_with fail
            refine HOS.out.mono ?_
            rintro e w7 ⟨⟨q7, s7, v7, rfl, hl7, hq7, _, _, hs7⟩, hf7⟩
            obtain rfl := (hs7 H6.out.1.gd).symm
            have hd6 : ∀ k, own3 b g m k → k < wr.heap.size := HOWN.out
            have hrc := Records_c hl7.lg (by show usd l.rs ≤ _; have h1 := hl7.gd.has.fits.1; have h2 := (hl7.gd.lk.few hl7.gd.dry.rt).2; have h3 : usd l.rs ≤ hf s6.cur := h1; omega)
            have HRC7 := Lib.hid hrc
            have hu7 := H6.out.2.2.keep hf7 (fun k hk ho => by have h1 := hd6 k ho; have h2 := HWW.out; have h3 := (H6.out.1.d.all k ho).1; have h4 := HLO.out; rcases hk with hk | hk <;> omega)
            have hlold := H6.out.1.lg.keep hf7 (fun k hk ho => H6.out.1.ap k ho hk)
            have H7 := Lib.hid (And.intro hl7.d (And.intro (H6.out.2.1.trans hf7 (fun k hk => .inr (Nat.le_trans HLO.out (H6.out.1.d.all k hk).1))) (And.intro hu7 hlold)))
            clear hrc hl7 hq7 hf7 hs7 hd6 hu7 hlold
            go_wp2_with fail
            refine HRC7.out.mono ?_
            rintro e w8 ⟨u8, rfl, hf8, hb8⟩
            have hvw : Bv (fun _ => True) w8 u8 l.rs := hb8.view (fun _ _ => trivial) (fun _ _ => trivial)
            obtain ⟨xao8, xcap8, rfl⟩ := hb8.shape
            have hu8 := H7.out.2.2.1.keep hf8 (fun _ _ h => h)
            have hsame := Same_c _ _ _ _ w8 hvw hu8 H5.out.2.2.2
            have hdt : decide (l.rs = l.rs) = true := decide_eq_true rfl
            rw [hdt] at hsame
            skip
            have HSM8 := Lib.hid hsame
            have H8 := Lib.hid (And.intro (H7.out.1.keep hf8 (fun _ _ h => h)) (And.intro (H7.out.2.1.then hf8) (H7.out.2.2.2.keep hf8 (fun _ _ h => h))))
            clear hvw hu8 hsame hf8 hb8 hdt
            go_wp2_with fail
            refine HSM8.out.mono ?_
            rintro e w9 ⟨rfl, hf9⟩
            have hac9 := Acts_c (H8.out.1.keep hf9 (fun _ _ h => h))
            have HAC9 := Lib.hid hac9
            have hM : Hid (AgM w w1.heap.size b g m q (j + 1) w9) := ⟨⟨s6, _, _, ⟨H8.out.1.keep hf9 (fun _ _ h => h), H8.out.2.2.keep hf9 (fun _ _ h => h), H6.out.1.ap, H6.out.1.gd⟩, HL4.out.2⟩, H8.out.2.1.then hf9⟩
            clear hac9 hf9
            go_wp2_with fail
            refine HAC9.out.mono ?_
            rintro e w' ⟨rfl, hw'⟩
            obtain rfl := hw'.symm
            clear hw'
            go_wp2
            go_roundw
            case rel => exact ⟨j + 1, by omega, by go_num, hM⟩
            case measure => simp [RowKit.intOf]; omega
          · have z3 : ((0 : Int) < (L : Int)) = True := eq_true (by omega)
            have z3n : (0 < L) = True := eq_true (by omega)
            have z4 := room_full hful hL0
            rw [← H2.out.2.2.2] at z4
            clear hS hl6 hac6 hf3 hb3 hful hL0
            have hrc := Records_c HL4.out.1.lg (by show usd l.rs ≤ _; have h1 := HL4.out.1.gd.has.fits.1; have h2 := (HL4.out.1.gd.lk.few HL4.out.1.gd.dry.rt).2; have h3 : usd l.rs ≤ hf s6.cur := h1; omega)
            have HRC5 := Lib.hid hrc
            clear hrc
            go_wp2_with fail
            refine HRC5.out.mono ?_
            rintro e w5 ⟨u5, rfl, hf5, hb5⟩
            have hvw : Bv (fun _ => True) w5 u5 l.rs := hb5.view (fun _ _ => trivial) (fun _ _ => trivial)
            obtain ⟨xao5, xcap5, rfl⟩ := hb5.shape
            have hu5 := HU4.out.keep hf5 (fun _ _ h => h)
            have hrl : l.rs.length ≤ 1000000 := by have h1 := usd_ge l.rs; have h2 := HL4.out.1.gd.has.fits.1; have h3 := (HL4.out.1.gd.lk.few HL4.out.1.gd.dry.rt).2; have h4 : usd l.rs ≤ hf s6.cur := h2; omega
            have hsame := Same_c _ _ _ _ w5 hvw hu5 hrl
            have hdt : decide (l.rs = l.rs) = true := decide_eq_true rfl
            rw [hdt] at hsame
            skip
            have HSM := Lib.hid hsame
            have H5 := Lib.hid (And.intro (HF4.out.then hf5) (And.intro (HL4.out.1.non hf5) (And.intro hu5 hrl)))
            clear hvw hu5 hsame hf5 hb5 hdt hrl
            go_wp2_with fail
            refine HSM.out.mono ?_
            rintro e w6 ⟨rfl, hf6⟩
            have c6 : w6.cell? ⟨ga, oa + j, none⟩ = some (.slice xao L xcap) := (H5.out.1.then hf6).cell HCJ.out (fun h => h)
            have hl6 := H5.out.2.1.non hf6
            have hac := Acts_c hl6.d
            have hos := open_s hl6.d hl6.gd.dry hl6.gd.has (by have := HL4.out.2; omega)
            have HAC6 := Lib.hid hac
            have HOS := Lib.hid hos
            have H6 := Lib.hid (And.intro hl6 (And.intro (H5.out.1.then hf6) (H5.out.2.2.1.keep hf6 (fun _ _ h => h))))
            clear hl6 hac hos hf6
            go_wp2_with fail
            refine HAC6.out.mono ?_
            rintro e w' ⟨rfl, hw'⟩
            obtain rfl := hw'.symm
            clear hw'
            go_wp2_with fail
            refine HOS.out.mono ?_
            rintro e w7 ⟨⟨q7, s7, v7, rfl, hl7, hq7, _, _, hs7⟩, hf7⟩
            obtain rfl := (hs7 H6.out.1.gd).symm
            have hd6 : ∀ k, own3 b g m k → k < wr.heap.size := HOWN.out
            have hrc := Records_c hl7.lg (by show usd l.rs ≤ _; have h1 := hl7.gd.has.fits.1; have h2 := (hl7.gd.lk.few hl7.gd.dry.rt).2; have h3 : usd l.rs ≤ hf s6.cur := h1; omega)
            have HRC7 := Lib.hid hrc
            have hu7 := H6.out.2.2.keep hf7 (fun k hk ho => by have h1 := hd6 k ho; have h2 := HWW.out; have h3 := (H6.out.1.d.all k ho).1; have h4 := HLO.out; rcases hk with hk | hk <;> omega)
            have hlold := H6.out.1.lg.keep hf7 (fun k hk ho => H6.out.1.ap k ho hk)
            have H7 := Lib.hid (And.intro hl7.d (And.intro (H6.out.2.1.trans hf7 (fun k hk => .inr (Nat.le_trans HLO.out (H6.out.1.d.all k hk).1))) (And.intro hu7 hlold)))
            clear hrc hl7 hq7 hf7 hs7 hd6 hu7 hlold
            go_wp2_with fail
            refine HRC7.out.mono ?_
            rintro e w8 ⟨u8, rfl, hf8, hb8⟩
            have hvw : Bv (fun _ => True) w8 u8 l.rs := hb8.view (fun _ _ => trivial) (fun _ _ => trivial)
            obtain ⟨xao8, xcap8, rfl⟩ := hb8.shape
            have hu8 := H7.out.2.2.1.keep hf8 (fun _ _ h => h)
            have hsame := Same_c _ _ _ _ w8 hvw hu8 H5.out.2.2.2
            have hdt : decide (l.rs = l.rs) = true := decide_eq_true rfl
            rw [hdt] at hsame
            skip
            have HSM8 := Lib.hid hsame
            have H8 := Lib.hid (And.intro (H7.out.1.keep hf8 (fun _ _ h => h)) (And.intro (H7.out.2.1.then hf8) (H7.out.2.2.2.keep hf8 (fun _ _ h => h))))
            clear hvw hu8 hsame hf8 hb8 hdt
            go_wp2_with fail
            refine HSM8.out.mono ?_
            rintro e w9 ⟨rfl, hf9⟩
            have hac9 := Acts_c (H8.out.1.keep hf9 (fun _ _ h => h))
            have HAC9 := Lib.hid hac9
            have hM : Hid (AgM w w1.heap.size b g m q (j + 1) w9) := ⟨⟨s6, _, _, ⟨H8.out.1.keep hf9 (fun _ _ h => h), H8.out.2.2.keep hf9 (fun _ _ h => h), H6.out.1.ap, H6.out.1.gd⟩, HL4.out.2⟩, H8.out.2.1.then hf9⟩
            clear hac9 hf9
            go_wp2_with fail
            refine HAC9.out.mono ?_
            rintro e w' ⟨rfl, hw'⟩
            obtain rfl := hw'.symm
            clear hw'
            go_wp2
            go_roundw
            case rel => exact ⟨j + 1, by omega, by go_num, hM⟩
            case measure => simp [RowKit.intOf]; omega
        · obtain ⟨s6, v6, hl6, hac6, _, hat⟩ := hS.ex
          have z4 := room_ok hfit (by omega)
          rw [← H2.out.2.2.2] at z4
          have hf3 : Fp Non w w3 := H2.out.2.1.trans hS.fp (fun k hk => .inr (by
            have h3 := HLO.out
            rcases hk with hk | hk
            · have := (HLR.out.1.d.all k hk).1; omega
            · have := (HLR.out.1.lg.all k hk).1; omega))
          have hb3 := H2.out.2.2.1.keep hS.fp (fun k hk ho => by have h1 := (H2.out.2.2.1.block k hk).1; have h2 := HOB.out k ho; omega) (fun k hk ho => by have h1 := hk.1; have h2 := HOB.out k ho; omega)
          have h23 : w2.heap.size ≤ w3.heap.size := hS.fp.size
          have h02 : wr.heap.size ≤ w2.heap.size := H02.out
          have c3 : w3.cell? ⟨ga, oa + j, none⟩ = some (.slice xao L xcap) := hf3.cell HCJ.out (fun h => h)
          have hb3' := hb3.wide (E := fun k => k < w.heap.size ∨ (wr.heap.size ≤ k ∧ k < w3.heap.size)) (fun k hk => .inr ⟨hk.1, by omega⟩)
          have hww0 : w.heap.size ≤ wr.heap.size := Nat.le_trans HLO.out HWW.out
          have hse3 : Se w3 (.slice xao L xcap) bs := HXS.out.1.keep hf3 (fun _ _ _ h => h)
          have hap := app_bs w3 wr.heap.size _ _ _ _ _ 23 hb3' hse3 (fun h0 k hk => ⟨.inl (HXS.out.2.1 (by rw [HXS.out.2.2]; exact h0) k hk), fun e => by have h1 := HXS.out.2.1 (by rw [HXS.out.2.2]; exact h0) k hk; have h2 := (hb3.block k e).1; omega⟩) (by have h1 := usd_ge l.rs; have := HUS.out; omega) (by omega) (fun k hk => by rcases hk with hk | hk <;> omega)
          have HAP3 := Lib.hid hap
          have hblk : ∀ k, (Value.slice uao2 l.rs.length ucap2).ownBlock = some k → wr.heap.size ≤ k ∧ k < w2.heap.size := fun k hk => H2.out.2.2.1.block k hk
          have HB3 := Lib.hid (And.intro hl6 (And.intro hf3 (And.intro hblk (And.intro hat hww0))))
          have HAC3 := Lib.hid (show s6.acts ≤ 4 * (j + 1) by have := HLR.out.2; omega)
          clear hS hl6 hac6 hf3 hb3 hfit hat h23 h02 hb3' hww0 hse3 hap hblk
          go_wp2_with (at_builtin; go_must (refine wpList_app rfl _ _ _ _ rfl _ _ rfl rfl _ HAP3.out ?_))
          intro u4 w4 hR4
          have hf34 : Fp (fun k => (Value.slice uao2 l.rs.length ucap2).ownBlock = some k) w3 w4 := hR4.fp (Fp.refl _ w3) (fun k hk => .inl hk)
          have HU4 : Hid (Bv (fun k => k < w.heap.size ∨ wr.heap.size ≤ k) w4 u4 (l.rs ++ [bs])) := hR4.bo.view (fun k hk => hk.imp id (fun h => h.1)) (fun k hk => .inr (hR4.bo.block k hk).1)
          have hf4 : Fp Non w w4 := HB3.out.2.1.trans hf34 (fun k hk => .inr (by have h1 := (HB3.out.2.2.1 k hk).1; have h2 := HB3.out.2.2.2.2; omega))
          have HF4 := Lib.hid hf4
          have hl4 := HB3.out.1.keep hf34 (fun k hk ho => by have h1 := (HB3.out.2.2.1 k ho).1; have h2 := HOWN.out k hk; omega) (fun k hk ho => by
            have h1 := HB3.out.2.2.1 k ho
            rcases hk with hk | hk
            · have h3 := HOWL.out k (.inl hk); omega
            · rcases HB3.out.2.2.2.1 with e | e
              · rw [e] at hk
                have h3 := HOWL.out k (.inr hk); omega
              · have h3 := e k hk; omega)
          have HL4 := Lib.hid (And.intro hl4 HAC3.out)
          have c4 : w4.cell? ⟨ga, oa + j, none⟩ = some (.slice xao L xcap) := hf4.cell HCJ.out (fun h => h)
          obtain ⟨uao4, ucap4, rfl⟩ := hR4.bo.shape
          clear hR4 hf34 hf4 hl4
          have hrc := Records_c HL4.out.1.lg (by show usd (l.rs ++ [bs]) ≤ _; have h1 := HL4.out.1.gd.has.fits.1; have h2 := (HL4.out.1.gd.lk.few HL4.out.1.gd.dry.rt).2; have h3 : usd (l.rs ++ [bs]) ≤ hf s6.cur := h1; omega)
          have HRC5 := Lib.hid hrc
          clear hrc
          go_wp2_with fail
          refine HRC5.out.mono ?_
          rintro e w5 ⟨u5, rfl, hf5, hb5⟩
          have hvw : Bv (fun _ => True) w5 u5 (l.rs ++ [bs]) := hb5.view (fun _ _ => trivial) (fun _ _ => trivial)
          obtain ⟨xao5, xcap5, rfl⟩ := hb5.shape
          have hu5 := HU4.out.keep hf5 (fun _ _ h => h)
          have hrl : (l.rs ++ [bs]).length ≤ 1000000 := by have h1 := usd_ge (l.rs ++ [bs]); have h2 := HL4.out.1.gd.has.fits.1; have h3 := (HL4.out.1.gd.lk.few HL4.out.1.gd.dry.rt).2; have h4 : usd (l.rs ++ [bs]) ≤ hf s6.cur := h2; omega
          have hsame := Same_c _ _ _ _ w5 hvw hu5 hrl
          have hdt : decide ((l.rs ++ [bs]) = (l.rs ++ [bs])) = true := decide_eq_true rfl
          rw [hdt] at hsame
          simp only [List.length_append, List.length_cons, List.length_nil, Nat.zero_add] at hsame
          have HSM := Lib.hid hsame
          have H5 := Lib.hid (And.intro (HF4.out.then hf5) (And.intro (HL4.out.1.non hf5) (And.intro hu5 hrl)))
          clear hvw hu5 hsame hf5 hb5 hdt hrl
          go_wp2_with fail
          refine HSM.out.mono ?_
          rintro e w6 ⟨rfl, hf6⟩
          have c6 : w6.cell? ⟨ga, oa + j, none⟩ = some (.slice xao L xcap) := (H5.out.1.then hf6).cell HCJ.out (fun h => h)
          have hl6 := H5.out.2.1.non hf6
          have hac := Acts_c hl6.d
          have hos := open_s hl6.d hl6.gd.dry hl6.gd.has (by have := HL4.out.2; omega)
          have HAC6 := Lib.hid hac
          have HOS := Lib.hid hos
          have H6 := Lib.hid (And.intro hl6 (And.intro (H5.out.1.then hf6) (H5.out.2.2.1.keep hf6 (fun _ _ h => h))))
          clear hl6 hac hos hf6
          go_wp2_with fail
          refine HAC6.out.mono ?_
          rintro e w' ⟨rfl, hw'⟩
          obtain rfl := hw'.symm
          clear hw'
          go_wp2_with fail
          refine HOS.out.mono ?_
          rintro e w7 ⟨⟨q7, s7, v7, rfl, hl7, hq7, _, _, hs7⟩, hf7⟩
          obtain rfl := (hs7 H6.out.1.gd).symm
          have hd6 : ∀ k, own3 b g m k → k < wr.heap.size := HOWN.out
          have hrc := Records_c hl7.lg (by show usd (l.rs ++ [bs]) ≤ _; have h1 := hl7.gd.has.fits.1; have h2 := (hl7.gd.lk.few hl7.gd.dry.rt).2; have h3 : usd (l.rs ++ [bs]) ≤ hf s6.cur := h1; omega)
          have HRC7 := Lib.hid hrc
          have hu7 := H6.out.2.2.keep hf7 (fun k hk ho => by have h1 := hd6 k ho; have h2 := HWW.out; have h3 := (H6.out.1.d.all k ho).1; have h4 := HLO.out; rcases hk with hk | hk <;> omega)
          have hlold := H6.out.1.lg.keep hf7 (fun k hk ho => H6.out.1.ap k ho hk)
          have H7 := Lib.hid (And.intro hl7.d (And.intro (H6.out.2.1.trans hf7 (fun k hk => .inr (Nat.le_trans HLO.out (H6.out.1.d.all k hk).1))) (And.intro hu7 hlold)))
          clear hrc hl7 hq7 hf7 hs7 hd6 hu7 hlold
          go_wp2_with fail
          refine HRC7.out.mono ?_
          rintro e w8 ⟨u8, rfl, hf8, hb8⟩
          have hvw : Bv (fun _ => True) w8 u8 (l.rs ++ [bs]) := hb8.view (fun _ _ => trivial) (fun _ _ => trivial)
          obtain ⟨xao8, xcap8, rfl⟩ := hb8.shape
          have hu8 := H7.out.2.2.1.keep hf8 (fun _ _ h => h)
          have hsame := Same_c _ _ _ _ w8 hvw hu8 H5.out.2.2.2
          have hdt : decide ((l.rs ++ [bs]) = (l.rs ++ [bs])) = true := decide_eq_true rfl
          rw [hdt] at hsame
          simp only [List.length_append, List.length_cons, List.length_nil, Nat.zero_add] at hsame
          have HSM8 := Lib.hid hsame
          have H8 := Lib.hid (And.intro (H7.out.1.keep hf8 (fun _ _ h => h)) (And.intro (H7.out.2.1.then hf8) (H7.out.2.2.2.keep hf8 (fun _ _ h => h))))
          clear hvw hu8 hsame hf8 hb8 hdt
          go_wp2_with fail
          refine HSM8.out.mono ?_
          rintro e w9 ⟨rfl, hf9⟩
          have hac9 := Acts_c (H8.out.1.keep hf9 (fun _ _ h => h))
          have HAC9 := Lib.hid hac9
          have hM : Hid (AgM w w1.heap.size b g m q (j + 1) w9) := ⟨⟨s6, _, _, ⟨H8.out.1.keep hf9 (fun _ _ h => h), H8.out.2.2.keep hf9 (fun _ _ h => h), H6.out.1.ap, H6.out.1.gd⟩, HL4.out.2⟩, H8.out.2.1.then hf9⟩
          clear hac9 hf9
          go_wp2_with fail
          refine HAC9.out.mono ?_
          rintro e w' ⟨rfl, hw'⟩
          obtain rfl := hw'.symm
          clear hw'
          go_wp2
          go_roundw
          case rel => exact ⟨j + 1, by omega, by go_num, hM⟩
          case measure => simp [RowKit.intOf]; omega
    · have hje : j = N := by omega
      subst hje
      have z0 : ((j : Int) < (j : Int)) = False := eq_false (by omega)
      clear hlt hj
      go_wp2
      go_ret
      exact ⟨rfl, hR.out.fp⟩
end Go.Proofs.Ytekhpmeadebdkaa
