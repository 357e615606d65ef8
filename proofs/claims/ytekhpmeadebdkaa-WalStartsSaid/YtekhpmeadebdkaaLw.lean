/- WalWhole: the law's walk. -/
import Derived.Test.YtekhpmeadebdkaaWh
namespace Go.Proofs.Ytekhpmeadebdkaa
set_option maxRecDepth 20000
open Go.RowKit Pm

/-- Ahead of round j: the log has just what was appended. -/
structure WhM (w : World) (lo b g m q : Nat) (j : Nat) (wv : Value) (wr : World) : Prop where
  ex : ∃ s l v, Lw lo b g m q s l v wr ∧ s.acts ≤ 4 * j ∧ Bo lo (fun k => k < w.heap.size) wr wv l.rs ∧ ∀ k, wv.ownBlock = some k → ¬ own3 b g m k ∧ ¬ ownL q v k
  fp : Fp Non w wr

/-- What was appended, behind an Append. -/
theorem WhM.same {w wr w3 : World} {lo b g m q : Nat} {s : Dk} {l l' : Lg} {v3 wv : Value} {ac : Nat} {ls : List Bs} (hww : w.heap.size ≤ lo) (hl : Lw lo b g m q s l v3 wr) (ha : s.acts ≤ ac) (hf : Fp Non w wr) (hb : Bo lo (fun k => k < w.heap.size) wr wv ls) (hn : ∀ k, wv.ownBlock = some k → ¬ own3 b g m k ∧ ¬ ownL q v3 k) (hS : LgS lo b g m q s l v3 wr l' 4 w3) :
    Fp Non w w3 ∧ Bo lo (fun k => k < w.heap.size) w3 wv ls ∧ ∃ s6 v6, Lw lo b g m q s6 l' v6 w3 ∧ s6.acts ≤ ac + 4 ∧ ∀ k, wv.ownBlock = some k → ¬ own3 b g m k ∧ ¬ ownL q v6 k := by
  obtain ⟨s6, v6, hl6, hac6, _, hat⟩ := hS.ex
  have hlow : ∀ k, own3 b g m k ∨ ownL q v3 k → lo ≤ k := fun k hk => hk.elim (fun h => (hl.d.all k h).1) (fun h => (hl.lg.all k h).1)
  refine ⟨hf.trans hS.fp (fun k hk => .inr (Nat.le_trans hww (hlow k hk))), hb.keep hS.fp (fun k hk ho => ?_) (fun k hk ho => ?_), s6, v6, hl6, by omega, fun k hk => ⟨(hn k hk).1, fun ho => ?_⟩⟩
  · rcases ho with ho | ho
    · exact (hn k hk).1 ho
    · exact (hn k hk).2 ho
  · have := hlow k ho; omega
  · have h1 := (hb.block k hk).2
    rcases ho with ho | ho
    · exact (hn k hk).2 (.inl ho)
    · rcases hat with e | e
      · rw [e] at ho; exact (hn k hk).2 (.inr ho)
      · have := e k ho; omega

set_option maxHeartbeats 16000000 in
theorem WalWhole_c (x : Int) (v : Value) (ls : List Bs) (bv : Value) (bl : Bs) (z : Int) (kv : Value) (keep : List Bool) (w : World) (hx : 0 ≤ x ∧ x ≤ 65535) (hv : Bv (fun k => k < w.heap.size) w v ls) (hb : Sl w bv bl) (hz : 0 ≤ z ∧ z ≤ 255) (hk : Sb w kv keep ∧ (0 < keep.length → ∀ k, kv.ownBlock = some k → k < w.heap.size)) :
    Calls Try.prog 3 #[.int .u16 x, v, bv, .int .u8 z, kv] w fun e w' => e = .returned (.bool true) ∧ Fp Non w w' := by
  obtain ⟨a, rfl⟩ := Int.eq_ofNat_of_zero_le hx.1
  obtain ⟨y, rfl⟩ := Int.eq_ofNat_of_zero_le hz.1
  obtain ⟨r, hr⟩ : ∃ r, r = a % 300 := ⟨_, rfl⟩
  obtain ⟨f, hf⟩ : ∃ f, f = y % 6 := ⟨_, rfl⟩
  have t1 : ((a : Nat) : Int).tmod 300 = (r : Int) := by rw [Int.tmod_eq_emod_of_nonneg (by omega)]; omega
  have t1' : ((a : Nat) : Int) % 300 = (r : Int) := by omega
  have t2 : ((y : Nat) : Int).tmod 6 = (f : Int) := by rw [Int.tmod_eq_emod_of_nonneg (by omega)]; omega
  have t2' : ((y : Nat) : Int) % 6 = (f : Int) := by omega
  obtain ⟨n, hn⟩ : ∃ n, n = r + 3 := ⟨_, rfl⟩
  have hnr : (3 : Int) + (r : Int) = (n : Int) := by omega
  have hrb : r ≤ 300 := by omega
  have hfb : f ≤ 5 := by omega
  have hnb : 3 ≤ n ∧ n ≤ 302 := by omega
  obtain ⟨vao, vcap, rfl, hc⟩ := hv.ex
  obtain ⟨bao, bcap, rfl, _, _, _⟩ := hb.ex
  obtain ⟨N, hN⟩ : ∃ N, N = ls.length := ⟨_, rfl⟩
  obtain ⟨M, hM⟩ : ∃ M, M = bl.length := ⟨_, rfl⟩
  have HV := Lib.hid (And.intro hv hN)
  have HB := Lib.hid (And.intro hb hM)
  have HC := Lib.hid hc
  have HK := Lib.hid hk
  have HNB := Lib.hid hnb
  rw [← hN, ← hM]
  have hls := fun w => lstart_c n HNB.out.1 (by have := HNB.out.2; omega) w
  have HLS := Lib.hid hls
  by_cases hgr : 60 < N ∨ 6000 < M
  · rcases (show 60 < N ∨ (N ≤ 60 ∧ 6000 < M) by omega) with h60 | ⟨h60, hM6⟩
    · have q1 : ((60 : Int) < (N : Int)) = True := eq_true (by omega)
      clear hls hv hc hN hr hn hnb hb hM hk hf h60 hgr
      go_enter Try.func3, Try.ntmps3
      go_wp2_with fail
      refine (head_c w).mono ?_
      rintro e w1 ⟨rfl, hf1⟩
      have HF1 := Lib.hid hf1
      clear hf1
      go_wp2_with fail
      refine (HLS.out w1).mono ?_
      rintro e w2 ⟨b, g, m, q, v0, rfl, hl2, hf2⟩
      have HF2 := Lib.hid hf2
      clear hl2 hf2
      go_wp2
      go_ret
      exact ⟨rfl, HF1.out.then HF2.out⟩
    · have q1 : ((60 : Int) < (N : Int)) = False := eq_false (by omega)
      have q2 : ((6000 : Int) < (M : Int)) = True := eq_true (by omega)
      clear hls hv hc hN hr hn hnb hb hM hk hf h60 hM6 hgr
      go_enter Try.func3, Try.ntmps3
      go_wp2_with fail
      refine (head_c w).mono ?_
      rintro e w1 ⟨rfl, hf1⟩
      have HF1 := Lib.hid hf1
      clear hf1
      go_wp2_with fail
      refine (HLS.out w1).mono ?_
      rintro e w2 ⟨b, g, m, q, v0, rfl, hl2, hf2⟩
      have HF2 := Lib.hid hf2
      clear hl2 hf2
      go_wp2
      go_ret
      exact ⟨rfl, HF1.out.then HF2.out⟩
  have q1 : ((60 : Int) < (N : Int)) = False := eq_false (by omega)
  have q2 : ((6000 : Int) < (M : Int)) = False := eq_false (by omega)
  have hN60 : N ≤ 60 := by omega
  have hM6 : M ≤ 6000 := by omega
  clear hls hv hc hN hr hn hnb hb hM hk hf hgr
  go_enter Try.func3, Try.ntmps3
  go_wp2_with fail
  refine (head_c w).mono ?_
  rintro e w1 ⟨rfl, hf1⟩
  have HF1 := Lib.hid hf1
  clear hf1
  go_wp2_with fail
  refine (HLS.out w1).mono ?_
  rintro e w2 ⟨b, g, m, q, v0, rfl, hl2, hf2⟩
  have H0 : Hid (WhM w w1.heap.size b g m q 0 (.slice none 0 0) w2) := ⟨⟨_, _, v0, hl2, Nat.zero_le _, Bo.nil _ _ _, fun k hk => by cases hk⟩, HF1.out.then hf2⟩
  have HLO := Lib.hid HF1.out.size
  clear hl2 hf2
  go_wp2_with fail
  go_loopw [15, 16] (fun wv i wr => ∃ j : Nat, j ≤ N ∧ i = .int .i64 j ∧ Hid (WhM w w1.heap.size b g m q j wv wr)) (fun _ i _ => N - (RowKit.intOf i).toNat)
  case atStart => exact ⟨0, Nat.zero_le _, rfl, H0⟩
  case round =>
    obtain ⟨j, hj, rfl, hR⟩ := hrel
    obtain ⟨s, l, v3, hl, hac, hwas, hapt⟩ := hR.out.ex
    obtain ⟨wao, wcap, rfl⟩ := hwas.shape
    have HLR := Lib.hid (And.intro hl (And.intro hac (And.intro hwas hapt)))
    by_cases hlt : j < N
    · have hjl : j < ls.length := by rw [← HV.out.2]; exact hlt
      obtain ⟨ga, oa, rfl, _, hcell⟩ := HC.out (by omega)
      obtain ⟨xv, hxc, hxs, hxD⟩ := hcell j hjl
      obtain ⟨bs, hbs⟩ : ∃ bs, bs = ls[j] := ⟨_, rfl⟩
      rw [← hbs] at hxs hxD
      obtain ⟨xao, xcap, rfl⟩ := hxs.shape
      obtain ⟨L, hL⟩ : ∃ L, L = bs.length := ⟨_, rfl⟩
      rw [← hL] at hxc hxs hxD
      have HCJ := Lib.hid hxc
      have HXS := Lib.hid (And.intro hxs (And.intro hxD hL))
      have hcw := hR.out.fp.cell hxc (fun h => h)
      have z0 : ((j : Int) < (N : Int)) = True := eq_true (by omega)
      have z00 : (j < N) = True := eq_true hlt
      by_cases hbig : 6000 < L
      · have z1 : ((6000 : Int) < (L : Int)) = True := eq_true (by omega)
        clear hl hac hwas hapt hxc hxs hxD hcell hbs hL hbig hjl
        go_wp2
        go_ret
        exact ⟨rfl, hR.out.fp⟩
      · have z1 : ((6000 : Int) < (L : Int)) = False := eq_false (by omega)
        have hL6 : L ≤ 6000 := by omega
        have hse : Src b g m wr (.slice xao L xcap) bs := Src.of_se (hxs.keep hR.out.fp (fun _ _ _ h => h)) (fun h0 k hk ho => by have h1 := hxD (by rw [hL]; exact h0) k hk; have h2 := (hl.d.all k ho).1; have h3 := HLO.out; omega)
        have happ := hl.append _ bs hse (by omega) (by omega)
        have HAP := Lib.hid happ
        have hlr : l.rs.length ≤ 100000 := by have h1 := usd_ge l.rs; have h2 := hl.gd.has.fits.1; have h3 := (hl.gd.lk.few hl.gd.dry.rt).2; omega
        have HLN := Lib.hid hlr
        clear hl hac hwas hapt hxc hxs hxD hcell hbs hL hbig hjl hse happ hlr
        go_wp2_with fail
        refine HAP.out.mono ?_
        rintro e w3 (⟨_, rfl, hS⟩ | ⟨_, rfl, hS⟩)
        · have hsm := WhM.same HLO.out HLR.out.1 HLR.out.2.1 hR.out.fp HLR.out.2.2.1 HLR.out.2.2.2 hS
          have hM : Hid (WhM w w1.heap.size b g m q (j + 1) (.slice wao l.rs.length wcap) w3) := by
            obtain ⟨h1, h2, s6, v6, h3, h4, h5⟩ := hsm
            exact ⟨⟨s6, l, v6, h3, by omega, h2, h5⟩, h1⟩
          clear hS hsm
          go_wp2
          go_roundw
          case rel => exact ⟨j + 1, by omega, by go_num, hM⟩
          case measure => simp [RowKit.intOf]; omega
        · have hsm := WhM.same HLO.out HLR.out.1 HLR.out.2.1 hR.out.fp HLR.out.2.2.1 HLR.out.2.2.2 hS
          have hsz3 : wr.heap.size ≤ w3.heap.size := hS.fp.size
          obtain ⟨hf3, hb3, s6, v6, hl6, hac6, hap6⟩ := hsm
          have c3 : w3.cell? ⟨ga, oa + j, none⟩ = some (.slice xao L xcap) := hf3.cell HCJ.out (fun h => h)
          have hap := app_bs w3 w1.heap.size _ _ _ _ _ 23 hb3 (HXS.out.1.keep hf3 (fun _ _ _ h => h)) (fun h0 k hk => ⟨HXS.out.2.1 (by rw [HXS.out.2.2]; exact h0) k hk, fun e => by have h1 := HXS.out.2.1 (by rw [HXS.out.2.2]; exact h0) k hk; have h2 := (hb3.block k e).1; have h3 := HLO.out; omega⟩) (by have := HLN.out; omega) (Nat.le_of_lt (Nat.lt_of_le_of_lt hl6.d.low.1 (hl6.d.all b (.inl rfl)).2)) (fun k hk => Nat.lt_of_lt_of_le hk hf3.size)
          have HAP3 := Lib.hid hap
          have HB3 := Lib.hid (And.intro hf3 (And.intro hb3 (And.intro hl6 (And.intro hac6 hap6))))
          clear hS hsz3 hf3 hb3 hl6 hac6 hap6 hap
          go_wp2_with (at_builtin; go_must (refine wpList_app rfl _ _ _ _ rfl _ _ rfl rfl _ HAP3.out ?_))
          intro u4 w4 hR4
          have hf34 : Fp (fun k => (Value.slice wao l.rs.length wcap).ownBlock = some k) w3 w4 := hR4.fp (Fp.refl _ w3) (fun k hk => .inl hk)
          have hM : Hid (WhM w w1.heap.size b g m q (j + 1) u4 w4) := by
            have hall : ∀ k, own3 b g m k ∨ ownL q v6 k → k < w3.heap.size := fun k hk => hk.elim (fun h => (HB3.out.2.2.1.d.all k h).2) (fun h => (HB3.out.2.2.1.lg.all k h).2)
            refine ⟨⟨s6, ⟨l.ar, l.rs ++ [bs]⟩, v6, HB3.out.2.2.1.keep hf34 (fun k hk ho => (HB3.out.2.2.2.2 k ho).1 hk) (fun k hk ho => (HB3.out.2.2.2.2 k ho).2 hk), by have := HB3.out.2.2.2.1; omega, hR4.bo, fun k hk => ?_⟩, HB3.out.1.trans hf34 (fun k hk => .inr (Nat.le_trans HLO.out (HB3.out.2.1.block k hk).1))⟩
            rcases hR4.at' with e | e
            · rw [e] at hk; exact HB3.out.2.2.2.2 k hk
            · have h1 := e k hk
              exact ⟨fun ho => by have := hall k (.inl ho); omega, fun ho => by have := hall k (.inr ho); omega⟩
          obtain ⟨uao4, ucap4, rfl⟩ := hR4.bo.shape
          clear hR4 hf34
          go_wp2
          go_roundw
          case rel => exact ⟨j + 1, by omega, by go_num, hM⟩
          case measure => simp [RowKit.intOf]; omega
    · have hje : j = N := by omega
      subst hje
      have z0 : ((j : Int) < (j : Int)) = False := eq_false (by omega)
      obtain ⟨L9, hhas, hrt, hac9, hcls⟩ := whole_found hl.gd (f : Int) (by omega) bl (by rw [← HB.out.2]; omega) keep
      have hfu := Fuse_c hl.d (f : Int) (by omega)
      have HFU := Lib.hid hfu
      have H9 := Lib.hid (And.intro hhas (And.intro hrt (And.intro hac9 hcls)))
      clear hl hac hwas hapt hlt hj hhas hrt hac9 hcls hfu
      go_wp2_with fail
      refine HFU.out.mono ?_
      rintro e w3 ⟨rfl, hd3, hf3⟩
      have hfw3 : Fp Non w w3 := hR.out.fp.trans hf3 (fun k hk => .inr (by rw [hk]; exact Nat.le_trans HLO.out (HLR.out.1.d.all b (.inl rfl)).1))
      have hlr3 := HLR.out.1.lg.keep hf3 (fun k hk e => HLR.out.1.ap k (.inl e) hk)
      have hlk : Lk (dFuse s f) l := ⟨HLR.out.1.gd.lk.big, HLR.out.1.gd.lk.ar, HLR.out.1.gd.lk.fit, HLR.out.1.gd.lk.sm⟩
      have hbw3 := HB.out.1.keep hfw3 (fun _ _ h => h)
      have hbb := HB.out.1.below
      have hsr : Src b g m w3 (.slice bao bl.length bcap) bl := Src.of_sl hbw3 (fun k hk ho => by have h1 := hbb k hk; have h2 := (hd3.all k ho).1; have h3 := HLO.out; omega)
      rw [← HB.out.2] at hsr hbb
      have happ := Append_c hd3 hlr3 hlk HLR.out.1.ap _ bl hsr (by show s.acts ≤ _; have := HLR.out.2.1; omega)
      have hwas3 := HLR.out.2.2.1.keep hf3 (fun k hk e => (HLR.out.2.2.2 k hk).1 (.inl e)) (fun k hk e => by have h2 := (HLR.out.1.d.all b (.inl rfl)).1; have h3 := HLO.out; omega)
      obtain ⟨ε, hε⟩ : ∃ ε, ε = (lAppend (dFuse s f) l bl).1 := ⟨_, rfl⟩
      rw [← hε] at happ H9
      have HAP := Lib.hid happ
      have H3 := Lib.hid (And.intro hd3 (And.intro hfw3 (And.intro hwas3 (And.intro hbb hε))))
      clear hd3 hf3 hfw3 hlr3 hlk hbw3 hbb hsr happ hwas3 hε
      go_wp2_with fail
      refine HAP.out.mono ?_
      rintro e w4 ⟨rfl, hR4⟩
      have hlow : ∀ k, own3 b g m k ∨ ownL q v3 k → w1.heap.size ≤ k := fun k hk => hk.elim (fun h => (HLR.out.1.d.all k h).1) (fun h => (HLR.out.1.lg.all k h).1)
      have hfw4 : Fp Non w w4 := H3.out.2.1.trans hR4.fp (fun k hk => .inr (Nat.le_trans HLO.out (hlow k hk)))
      have hwas4 := H3.out.2.2.1.keep hR4.fp (fun k hk ho => ho.elim (HLR.out.2.2.2 k hk).1 (HLR.out.2.2.2 k hk).2) (fun k hk ho => by have h1 := hlow k ho; have h3 := HLO.out; omega)
      have hcr := Crash_c hR4.d kv keep (HK.out.1.keep hfw4 (fun _ _ _ h => h)) (fun h0 k hk ho => by have h1 := HK.out.2 h0 k hk; have h2 := hlow k (.inl ho); have h3 := HLO.out; omega)
      have HCR := Lib.hid hcr
      have H4 := Lib.hid (And.intro hfw4 (And.intro hwas4 hlow))
      clear hR4 hlow hfw4 hwas4 hcr
      go_wp2_with fail
      refine HCR.out.mono ?_
      rintro e w5 ⟨rfl, hd5, hf5⟩
      have hfw5 : Fp Non w w5 := H4.out.1.trans hf5 (fun k hk => .inr (Nat.le_trans HLO.out (H4.out.2.2 k (.inl hk))))
      have hwas5 := H4.out.2.1.keep hf5 (fun k hk ho => (HLR.out.2.2.2 k hk).1 ho) (fun k hk ho => by have h1 := H4.out.2.2 k (.inl ho); have h3 := HLO.out; omega)
      have hos := open_s hd5 (crash_dry _ H9.out.2.1 keep) H9.out.1 (by rw [crash_acts]; have h1 := H9.out.2.2.1; have h2 := HLR.out.2.1; omega)
      have HOS := Lib.hid hos
      have H5 := Lib.hid (And.intro hd5 (And.intro hfw5 hwas5))
      clear hd5 hf5 hfw5 hwas5 hos
      go_wp2_with fail
      refine HOS.out.mono ?_
      rintro e w6 ⟨⟨q6, s6, v6, rfl, hl6, hq6, _, _, _⟩, hf6⟩
      have hus : usd L9 ≤ 65536 := by have h1 := hl6.gd.has.fits.1; have h2 := (hl6.gd.lk.few hl6.gd.dry.rt).2; have h3 : usd L9 ≤ hf s6.cur := h1; omega
      have hrc := Records_c hl6.lg (by show usd L9 ≤ _; omega)
      have HRC := Lib.hid hrc
      have hl9 : L9.length ≤ 100000 := by have := usd_ge L9; omega
      have hfw6 : Fp Non w w6 := H5.out.2.1.trans hf6 (fun k hk => .inr (Nat.le_trans HLO.out (H4.out.2.2 k (.inl hk))))
      have hwas6 := H5.out.2.2.keep hf6 (fun k hk ho => (HLR.out.2.2.2 k hk).1 ho) (fun k hk ho => by have h1 := H4.out.2.2 k (.inl ho); have h3 := HLO.out; omega)
      have H6 := Lib.hid (And.intro hfw6 (And.intro hwas6 hl9))
      clear hl6 hq6 hf6 hus hrc hl9 hfw6 hwas6
      go_wp2_with fail
      refine HRC.out.mono ?_
      rintro e w7 ⟨u7, rfl, hf7, hb7⟩
      have hnow : Bv (fun _ => True) w7 u7 L9 := hb7.view (fun _ _ => trivial) (fun _ _ => trivial)
      obtain ⟨nao, ncap, rfl⟩ := hb7.shape
      have hwas7 := H6.out.2.1.keep hf7 (fun _ _ h => h) (fun _ _ h => h)
      have hfw7 := H6.out.1.then hf7
      obtain ⟨W8, hW8⟩ : ∃ W8, W8 = w7.alloc (.cells #[] 24) := ⟨_, rfl⟩
      have hf8 : Fp Non w7 W8 := by rw [hW8]; exact (Fp.refl Non w7).alloc _
      have hem : Bo w.heap.size (fun k => k < w.heap.size) W8 (.slice (some ⟨w7.heap.size, 0, none⟩) 0 0) [] := by
        rw [hW8]
        exact ⟨[], World.ownsRow_lit w7 #[] 0 hfw7.size (by unfold maxLen; omega) rfl, rfl, fun k hk => by simp at hk⟩
      have hwl : l.rs.length ≤ 100000 := by have h1 := usd_ge l.rs; have h2 := HLR.out.1.gd.has.fits.1; have h3 := (HLR.out.1.gd.lk.few HLR.out.1.gd.dry.rt).2; omega
      have hall := app_all W8 w.heap.size _ _ _ _ _ _ 23 hem (hwas7.keep hf8 (fun _ _ h => h) (fun _ _ h => h)) (fun k hk e => by have h1 := hfw7.size; simp [Value.ownBlock] at e; omega) (fun k hk => Nat.lt_of_lt_of_le hk (Nat.le_trans hfw7.size hf8.size)) (by simp; omega) (Nat.le_trans hfw7.size hf8.size)
      have HALL := Lib.hid hall
      have H8 := Lib.hid (And.intro hfw7 (And.intro (hfw7.then hf8) (And.intro hnow (And.intro hwas7 hem))))
      rw [hW8] at HALL
      have HW8 := Lib.hid hW8
      have HWL := Lib.hid hwl
      clear hf7 hb7 hnow hwas7 hfw7 hf8 hem hwl hall hW8
      go_wp2_with (at_builtin; go_must (refine wpList_app rfl _ _ _ _ rfl _ _ rfl rfl _ HALL.out ?_))
      intro v9 w9 hR9
      have hf79 : Fp Non w7 w9 := hR9.fp ((Fp.refl Non w7).alloc _) (fun k hk => .inr (by simp [Value.ownBlock] at hk; omega))
      have hfw9 := H8.out.1.then hf79
      have hb9 := hR9.bo
      have hbx : ∀ k, (Value.slice bao M bcap).ownBlock = some k → k < w.heap.size := H3.out.2.2.2.1
      have hsx : Sl w9 (.slice bao M bcap) bl := by rw [HB.out.2]; exact HB.out.1.keep hfw9 (fun _ _ h => h)
      have hap := app_bs w9 w.heap.size _ _ _ _ _ 23 hb9 hsx.se (fun _ k hk => ⟨hbx k hk, fun e => by have h1 := hbx k hk; have h2 := (hb9.block k e).1; omega⟩) (by have := HWL.out; simp; omega) hfw9.size (fun k hk => Nat.lt_of_lt_of_le hk hfw9.size)
      have HAP9 := Lib.hid hap
      have hv9 : ∀ k, v9.ownBlock = some k → w7.heap.size ≤ k := fun k hk => by
        rcases hR9.at' with e | e
        · rw [e] at hk; simp [Value.ownBlock] at hk; omega
        · have h1 := e k hk; simp at h1; omega
      have H99 := Lib.hid (And.intro hf79 (And.intro hfw9 hv9))
      obtain ⟨pao, pcap, rfl⟩ := hb9.shape
      clear hR9 hf79 hfw9 hb9 hbx hsx hap hv9
      go_wp2_with (at_builtin; go_must (refine wpList_app rfl _ _ _ _ rfl _ _ rfl rfl _ HAP9.out ?_))
      intro v10 w10 hR10
      have hf710 : Fp Non w7 w10 := hR10.fp H99.out.1 (fun k hk => .inr (H99.out.2.2 k hk))
      have hnext : Bv (fun _ => True) w10 v10 (l.rs ++ [bl]) := hR10.bo.view (fun _ _ => trivial) (fun _ _ => trivial)
      have hnow := H8.out.2.2.1.keep hf710 (fun _ _ h => h)
      have hwas : Bv (fun _ => True) w10 (.slice wao l.rs.length wcap) l.rs := (H8.out.2.2.2.1.keep hf710 (fun _ _ h => h) (fun _ _ h => h)).view (fun _ _ => trivial) (fun _ _ => trivial)
      have H10 := Lib.hid (And.intro (H8.out.1.then hf710) (And.intro hnext (And.intro hnow hwas)))
      obtain ⟨oao, ocap, rfl⟩ := hR10.bo.shape
      clear hR10 hf710 hnext hnow hwas
      rcases H9.out.2.2.2 with ⟨h0, hL⟩ | ⟨h0, hL⟩ | ⟨h0, hL⟩ | ⟨h0, hL⟩
      · subst h0 hL
        have hsame := Same_c _ _ _ _ w10 H10.out.2.2.1 H10.out.2.1 (by have := H6.out.2.2; omega)
        rw [show decide (l.rs ++ [bl] = l.rs ++ [bl]) = true from decide_eq_true rfl] at hsame
        simp only [List.length_append, List.length_cons, List.length_nil, Nat.zero_add] at hsame
        have HSM := Lib.hid hsame
        clear hsame
        go_wp2_with fail
        refine HSM.out.mono ?_
        rintro e w11 ⟨rfl, hf11⟩
        have HF := Lib.hid hf11
        clear hf11
        go_wp2
        all_goals go_ret
        all_goals exact ⟨rfl, H10.out.1.then HF.out⟩
      · subst h0 hL
        have hsame := Same_c _ _ _ _ w10 H10.out.2.2.1 H10.out.2.2.2 (by have := H6.out.2.2; omega)
        rw [show decide (l.rs = l.rs) = true from decide_eq_true rfl] at hsame
        have HSM := Lib.hid hsame
        clear hsame
        go_wp2_with fail
        refine HSM.out.mono ?_
        rintro e w11 ⟨rfl, hf11⟩
        have HF := Lib.hid hf11
        clear hf11
        go_wp2
        all_goals go_ret
        all_goals exact ⟨rfl, H10.out.1.then HF.out⟩
      · subst h0 hL
        have hsame := Same_c _ _ _ _ w10 H10.out.2.2.1 H10.out.2.2.2 (by have := H6.out.2.2; omega)
        rw [show decide (l.rs = l.rs) = true from decide_eq_true rfl] at hsame
        have HSM := Lib.hid hsame
        clear hsame
        go_wp2_with fail
        refine HSM.out.mono ?_
        rintro e w11 ⟨rfl, hf11⟩
        have HF := Lib.hid hf11
        clear hf11
        go_wp2
        all_goals go_ret
        all_goals exact ⟨rfl, H10.out.1.then HF.out⟩
      · subst h0 hL
        have hsame := Same_c _ _ _ _ w10 H10.out.2.2.1 H10.out.2.2.2 (by have := H6.out.2.2; omega)
        have hne : ¬ (l.rs ++ [bl] = l.rs) := fun e => by have := congrArg List.length e; simp at this
        rw [show decide (l.rs ++ [bl] = l.rs) = false from decide_eq_false hne] at hsame
        simp only [List.length_append, List.length_cons, List.length_nil, Nat.zero_add] at hsame
        have HSM := Lib.hid hsame
        clear hsame hne
        go_wp2_with fail
        refine HSM.out.mono ?_
        rintro e w11 ⟨rfl, hf11⟩
        have hsame := Same_c _ _ _ _ w11 (H10.out.2.2.1.keep hf11 (fun _ _ h => h)) (H10.out.2.1.keep hf11 (fun _ _ h => h)) (by have := H6.out.2.2; omega)
        rw [show decide (l.rs ++ [bl] = l.rs ++ [bl]) = true from decide_eq_true rfl] at hsame
        simp only [List.length_append, List.length_cons, List.length_nil, Nat.zero_add] at hsame
        have HSM2 := Lib.hid hsame
        have HF := Lib.hid hf11
        clear hf11 hsame
        go_wp2_with fail
        refine HSM2.out.mono ?_
        rintro e w12 ⟨rfl, hf12⟩
        have HF2 := Lib.hid hf12
        clear hf12
        go_wp2
        all_goals go_ret
        all_goals exact ⟨rfl, (H10.out.1.then HF.out).then HF2.out⟩
end Go.Proofs.Ytekhpmeadebdkaa
