/- WalStarts: the law's walk. -/
import Derived.Test.YtekhpmeadebdkaaLw
namespace Go.Proofs.Ytekhpmeadebdkaa
set_option maxRecDepth 20000
open Go.RowKit Pm

/-- An append that is guarded. -/
theorem wpList_app_g {P : Program} {w : World} {ops : Array Oper} {rest : List Oper} {o : Oper} {a : Act} {Q : Exit → Act → World → Prop} (hw : Region.wanted o (yielded ops a.tmps) = true) (s x : Operand) (t u : TypeId)
    (ho : o.op = .call { callee := .builtin .append, args := #[s, x], argTypes := #[t, u] }) (v xv : Value) (hs : a.eval s = v) (hx : a.eval x = xv) (R : Value → World → Prop)
    (hr : ∃ v' w', (Builtin.append_ #[t, u] o.type #[v, xv]).run P w = .ok v' w' ∧ R v' w') (h : ∀ v' w', R v' w' → wpList P ops Q rest (a.put o.dst v') w') : wpList P ops Q (o :: rest) a w := by
  refine wpList_step fun K hK => ?_
  rw [if_pos hw]
  obtain ⟨v', w', hr, h2⟩ := hr
  unfold Oper.wp execOp
  simp only [ho, resolve, invoke, builtin, Sem.run_bind, Sem.run_pure, Result.andThen_ok, List.map_toArray, List.map_cons, List.map_nil, hs, hx, hr]
  exact hK _ _ (h v' w' h2)

set_option maxHeartbeats 16000000 in
theorem WalStarts_c (x : Int) (v : Value) (ls : List Bs) (bv : Value) (bl : Bs) (z : Int) (kv : Value) (keep : List Bool) (w : World) (hx : 0 ≤ x ∧ x ≤ 65535) (hv : Bv (fun k => k < w.heap.size) w v ls) (hb : Sl w bv bl) (hz : 0 ≤ z ∧ z ≤ 255) (hk : Sb w kv keep ∧ (0 < keep.length → ∀ k, kv.ownBlock = some k → k < w.heap.size)) :
    Calls Try.prog 4 #[.int .u16 x, v, bv, .int .u8 z, kv] w fun e w' => e = .returned (.bool true) ∧ Fp Non w w' := by
  obtain ⟨a, rfl⟩ := Int.eq_ofNat_of_zero_le hx.1
  obtain ⟨y, rfl⟩ := Int.eq_ofNat_of_zero_le hz.1
  obtain ⟨r, hr⟩ : ∃ r, r = a % 300 := ⟨_, rfl⟩
  obtain ⟨f, hf⟩ : ∃ f, f = y % 9 := ⟨_, rfl⟩
  have t1 : ((a : Nat) : Int).tmod 300 = (r : Int) := by rw [Int.tmod_eq_emod_of_nonneg (by omega)]; omega
  have t1' : ((a : Nat) : Int) % 300 = (r : Int) := by omega
  have t2 : ((y : Nat) : Int).tmod 9 = (f : Int) := by rw [Int.tmod_eq_emod_of_nonneg (by omega)]; omega
  have t2' : ((y : Nat) : Int) % 9 = (f : Int) := by omega
  obtain ⟨n, hn⟩ : ∃ n, n = r + 3 := ⟨_, rfl⟩
  have hnr : (3 : Int) + (r : Int) = (n : Int) := by omega
  have hrb : r ≤ 300 := by omega
  have hfb : f ≤ 8 := by omega
  have hnb : 3 ≤ n ∧ n ≤ 302 := by omega
  obtain ⟨vao, vcap, rfl, hc⟩ := hv.ex
  obtain ⟨bao, bcap, rfl, _, _, _⟩ := hb.ex
  obtain ⟨N, hN⟩ : ∃ N, N = ls.length := ⟨_, rfl⟩
  obtain ⟨M, hM⟩ : ∃ M, M = bl.length := ⟨_, rfl⟩
  have HV := Lib.hid (And.intro hv hN)
  have HB := Lib.hid (And.intro hb hM)
  have HC := Lib.hid hc
  have HK := Lib.hid hk
  have HNB := Lib.hid hnb
  rw [← hN, ← hM]
  have hls := fun w => lstart_c n HNB.out.1 (by have := HNB.out.2; omega) w
  have HLS := Lib.hid hls
  by_cases hgr : 60 < N ∨ 6000 < M
  · rcases (show 60 < N ∨ (N ≤ 60 ∧ 6000 < M) by omega) with h60 | ⟨h60, hM6⟩
    · have q1 : ((60 : Int) < (N : Int)) = True := eq_true (by omega)
      clear hls hv hc hN hr hn hnb hb hM hk hf h60 hgr
      go_enter Try.func4, Try.ntmps4
      go_wp2_with fail
      refine (head_c w).mono ?_
      rintro e w1 ⟨rfl, hf1⟩
      have HF1 := Lib.hid hf1
      clear hf1
      go_wp2_with fail
      refine (HLS.out w1).mono ?_
      rintro e w2 ⟨b, g, m, q, v0, rfl, hl2, hf2⟩
      have HF2 := Lib.hid hf2
      clear hl2 hf2
      go_wp2
      go_ret
      exact ⟨rfl, HF1.out.then HF2.out⟩
    · have q1 : ((60 : Int) < (N : Int)) = False := eq_false (by omega)
      have q2 : ((6000 : Int) < (M : Int)) = True := eq_true (by omega)
      clear hls hv hc hN hr hn hnb hb hM hk hf h60 hM6 hgr
      go_enter Try.func4, Try.ntmps4
      go_wp2_with fail
      refine (head_c w).mono ?_
      rintro e w1 ⟨rfl, hf1⟩
      have HF1 := Lib.hid hf1
      clear hf1
      go_wp2_with fail
      refine (HLS.out w1).mono ?_
      rintro e w2 ⟨b, g, m, q, v0, rfl, hl2, hf2⟩
      have HF2 := Lib.hid hf2
      clear hl2 hf2
      go_wp2
      go_ret
      exact ⟨rfl, HF1.out.then HF2.out⟩
  have q1 : ((60 : Int) < (N : Int)) = False := eq_false (by omega)
  have q2 : ((6000 : Int) < (M : Int)) = False := eq_false (by omega)
  have hN60 : N ≤ 60 := by omega
  have hM6 : M ≤ 6000 := by omega
  clear hls hv hc hN hr hn hnb hb hM hk hf hgr
  go_enter Try.func4, Try.ntmps4
  go_wp2_with fail
  refine (head_c w).mono ?_
  rintro e w1 ⟨rfl, hf1⟩
  have HF1 := Lib.hid hf1
  clear hf1
  go_wp2_with fail
  refine (HLS.out w1).mono ?_
  rintro e w2 ⟨b, g, m, q, v0, rfl, hl2, hf2⟩
  have H0 : Hid (WhM w w1.heap.size b g m q 0 (.slice none 0 0) w2) := ⟨⟨_, _, v0, hl2, Nat.zero_le _, Bo.nil _ _ _, fun k hk => by cases hk⟩, HF1.out.then hf2⟩
  have HLO := Lib.hid HF1.out.size
  clear hl2 hf2
  go_wp2_with fail
  go_loopw [15, 16] (fun wv i wr => ∃ j : Nat, j ≤ N ∧ i = .int .i64 j ∧ Hid (WhM w w1.heap.size b g m q j wv wr)) (fun _ i _ => N - (RowKit.intOf i).toNat)
  case atStart => exact ⟨0, Nat.zero_le _, rfl, H0⟩
  case round =>
    obtain ⟨j, hj, rfl, hR⟩ := hrel
    obtain ⟨s, l, v3, hl, hac, hwas, hapt⟩ := hR.out.ex
    obtain ⟨wao, wcap, rfl⟩ := hwas.shape
    have HLR := Lib.hid (And.intro hl (And.intro hac (And.intro hwas hapt)))
    by_cases hlt : j < N
    · have hjl : j < ls.length := by rw [← HV.out.2]; exact hlt
      obtain ⟨ga, oa, rfl, _, hcell⟩ := HC.out (by omega)
      obtain ⟨xv, hxc, hxs, hxD⟩ := hcell j hjl
      obtain ⟨bs, hbs⟩ : ∃ bs, bs = ls[j] := ⟨_, rfl⟩
      rw [← hbs] at hxs hxD
      obtain ⟨xao, xcap, rfl⟩ := hxs.shape
      obtain ⟨L, hL⟩ : ∃ L, L = bs.length := ⟨_, rfl⟩
      rw [← hL] at hxc hxs hxD
      have HCJ := Lib.hid hxc
      have HXS := Lib.hid (And.intro hxs (And.intro hxD hL))
      have hcw := hR.out.fp.cell hxc (fun h => h)
      have z0 : ((j : Int) < (N : Int)) = True := eq_true (by omega)
      have z00 : (j < N) = True := eq_true hlt
      by_cases hbig : 6000 < L
      · have z1 : ((6000 : Int) < (L : Int)) = True := eq_true (by omega)
        clear hl hac hwas hapt hxc hxs hxD hcell hbs hL hbig hjl
        go_wp2
        go_ret
        exact ⟨rfl, hR.out.fp⟩
      · have z1 : ((6000 : Int) < (L : Int)) = False := eq_false (by omega)
        have hL6 : L ≤ 6000 := by omega
        have hse : Src b g m wr (.slice xao L xcap) bs := Src.of_se (hxs.keep hR.out.fp (fun _ _ _ h => h)) (fun h0 k hk ho => by have h1 := hxD (by rw [hL]; exact h0) k hk; have h2 := (hl.d.all k ho).1; have h3 := HLO.out; omega)
        have happ := hl.append _ bs hse (by omega) (by omega)
        have HAP := Lib.hid happ
        have hlr : l.rs.length ≤ 100000 := by have h1 := usd_ge l.rs; have h2 := hl.gd.has.fits.1; have h3 := (hl.gd.lk.few hl.gd.dry.rt).2; omega
        have HLN := Lib.hid hlr
        clear hl hac hwas hapt hxc hxs hxD hcell hbs hL hbig hjl hse happ hlr
        go_wp2_with fail
        refine HAP.out.mono ?_
        rintro e w3 (⟨_, rfl, hS⟩ | ⟨_, rfl, hS⟩)
        · have hsm := WhM.same HLO.out HLR.out.1 HLR.out.2.1 hR.out.fp HLR.out.2.2.1 HLR.out.2.2.2 hS
          have hM : Hid (WhM w w1.heap.size b g m q (j + 1) (.slice wao l.rs.length wcap) w3) := by
            obtain ⟨h1, h2, s6, v6, h3, h4, h5⟩ := hsm
            exact ⟨⟨s6, l, v6, h3, by omega, h2, h5⟩, h1⟩
          clear hS hsm
          go_wp2
          go_roundw
          case rel => exact ⟨j + 1, by omega, by go_num, hM⟩
          case measure => simp [RowKit.intOf]; omega
        · have hsm := WhM.same HLO.out HLR.out.1 HLR.out.2.1 hR.out.fp HLR.out.2.2.1 HLR.out.2.2.2 hS
          have hsz3 : wr.heap.size ≤ w3.heap.size := hS.fp.size
          obtain ⟨hf3, hb3, s6, v6, hl6, hac6, hap6⟩ := hsm
          have c3 : w3.cell? ⟨ga, oa + j, none⟩ = some (.slice xao L xcap) := hf3.cell HCJ.out (fun h => h)
          have hap := app_bs w3 w1.heap.size _ _ _ _ _ 23 hb3 (HXS.out.1.keep hf3 (fun _ _ _ h => h)) (fun h0 k hk => ⟨HXS.out.2.1 (by rw [HXS.out.2.2]; exact h0) k hk, fun e => by have h1 := HXS.out.2.1 (by rw [HXS.out.2.2]; exact h0) k hk; have h2 := (hb3.block k e).1; have h3 := HLO.out; omega⟩) (by have := HLN.out; omega) (Nat.le_of_lt (Nat.lt_of_le_of_lt hl6.d.low.1 (hl6.d.all b (.inl rfl)).2)) (fun k hk => Nat.lt_of_lt_of_le hk hf3.size)
          have HAP3 := Lib.hid hap
          have HB3 := Lib.hid (And.intro hf3 (And.intro hb3 (And.intro hl6 (And.intro hac6 hap6))))
          clear hS hsz3 hf3 hb3 hl6 hac6 hap6 hap
          go_wp2_with (at_builtin; go_must (refine wpList_app rfl _ _ _ _ rfl _ _ rfl rfl _ HAP3.out ?_))
          intro u4 w4 hR4
          have hf34 : Fp (fun k => (Value.slice wao l.rs.length wcap).ownBlock = some k) w3 w4 := hR4.fp (Fp.refl _ w3) (fun k hk => .inl hk)
          have hM : Hid (WhM w w1.heap.size b g m q (j + 1) u4 w4) := by
            have hall : ∀ k, own3 b g m k ∨ ownL q v6 k → k < w3.heap.size := fun k hk => hk.elim (fun h => (HB3.out.2.2.1.d.all k h).2) (fun h => (HB3.out.2.2.1.lg.all k h).2)
            refine ⟨⟨s6, ⟨l.ar, l.rs ++ [bs]⟩, v6, HB3.out.2.2.1.keep hf34 (fun k hk ho => (HB3.out.2.2.2.2 k ho).1 hk) (fun k hk ho => (HB3.out.2.2.2.2 k ho).2 hk), by have := HB3.out.2.2.2.1; omega, hR4.bo, fun k hk => ?_⟩, HB3.out.1.trans hf34 (fun k hk => .inr (Nat.le_trans HLO.out (HB3.out.2.1.block k hk).1))⟩
            rcases hR4.at' with e | e
            · rw [e] at hk; exact HB3.out.2.2.2.2 k hk
            · have h1 := e k hk
              exact ⟨fun ho => by have := hall k (.inl ho); omega, fun ho => by have := hall k (.inr ho); omega⟩
          obtain ⟨uao4, ucap4, rfl⟩ := hR4.bo.shape
          clear hR4 hf34
          go_wp2
          go_roundw
          case rel => exact ⟨j + 1, by omega, by go_num, hM⟩
          case measure => simp [RowKit.intOf]; omega
    · have hje : j = N := by omega
      subst hje
      have z0 : ((j : Int) < (j : Int)) = False := eq_false (by omega)
      obtain ⟨a9, L9, hhas, hrt, hac9, hcls⟩ := starts_found hl.gd (f : Int) (by omega) bl (by rw [← HB.out.2]; omega) keep
      have hfu := Fuse_c hl.d (f : Int) (by omega)
      have HFU := Lib.hid hfu
      have H9 := Lib.hid (And.intro hhas (And.intro hrt (And.intro hac9 hcls)))
      clear hl hac hwas hapt hlt hj hhas hrt hac9 hcls hfu
      go_wp2_with fail
      refine HFU.out.mono ?_
      rintro e w3 ⟨rfl, hd3, hf3⟩
      have hfw3 : Fp Non w w3 := hR.out.fp.trans hf3 (fun k hk => .inr (by rw [hk]; exact Nat.le_trans HLO.out (HLR.out.1.d.all b (.inl rfl)).1))
      have hlr3 := HLR.out.1.lg.keep hf3 (fun k hk e => HLR.out.1.ap k (.inl e) hk)
      have hlk : Lk (dFuse s f) l := ⟨HLR.out.1.gd.lk.big, HLR.out.1.gd.lk.ar, HLR.out.1.gd.lk.fit, HLR.out.1.gd.lk.sm⟩
      have hbw3 := HB.out.1.keep hfw3 (fun _ _ h => h)
      have hbb := HB.out.1.below
      have hsr : Src b g m w3 (.slice bao bl.length bcap) bl := Src.of_sl hbw3 (fun k hk ho => by have h1 := hbb k hk; have h2 := (hd3.all k ho).1; have h3 := HLO.out; omega)
      rw [← HB.out.2] at hsr hbb
      have happ := Start_c hd3 hlr3 hlk HLR.out.1.ap _ bl hsr (by show s.acts ≤ _; have := HLR.out.2.1; omega)
      have hwas3 := HLR.out.2.2.1.keep hf3 (fun k hk e => (HLR.out.2.2.2 k hk).1 (.inl e)) (fun k hk e => by have h2 := (HLR.out.1.d.all b (.inl rfl)).1; have h3 := HLO.out; omega)
      obtain ⟨ε, hε⟩ : ∃ ε, ε = (lStart (dFuse s f) l bl).1 := ⟨_, rfl⟩
      rw [← hε] at happ H9
      have HAP := Lib.hid happ
      have H3 := Lib.hid (And.intro hd3 (And.intro hfw3 (And.intro hwas3 (And.intro hbb hε))))
      clear hd3 hf3 hfw3 hlr3 hlk hbw3 hbb hsr happ hwas3 hε
      go_wp2_with fail
      refine HAP.out.mono ?_
      rintro e w4 ⟨rfl, hR4⟩
      have hlow : ∀ k, own3 b g m k ∨ ownL q v3 k → w1.heap.size ≤ k := fun k hk => hk.elim (fun h => (HLR.out.1.d.all k h).1) (fun h => (HLR.out.1.lg.all k h).1)
      have hfw4 : Fp Non w w4 := H3.out.2.1.trans hR4.fp (fun k hk => .inr (Nat.le_trans HLO.out (hlow k hk)))
      have hwas4 := H3.out.2.2.1.keep hR4.fp (fun k hk ho => ho.elim (HLR.out.2.2.2 k hk).1 (HLR.out.2.2.2 k hk).2) (fun k hk ho => by have h1 := hlow k ho; have h3 := HLO.out; omega)
      have hcr := Crash_c hR4.d kv keep (HK.out.1.keep hfw4 (fun _ _ _ h => h)) (fun h0 k hk ho => by have h1 := HK.out.2 h0 k hk; have h2 := hlow k (.inl ho); have h3 := HLO.out; omega)
      have HCR := Lib.hid hcr
      have H4 := Lib.hid (And.intro hfw4 (And.intro hwas4 hlow))
      clear hR4 hlow hfw4 hwas4 hcr
      go_wp2_with fail
      refine HCR.out.mono ?_
      rintro e w5 ⟨rfl, hd5, hf5⟩
      have hfw5 : Fp Non w w5 := H4.out.1.trans hf5 (fun k hk => .inr (Nat.le_trans HLO.out (H4.out.2.2 k (.inl hk))))
      have hwas5 := H4.out.2.1.keep hf5 (fun k hk ho => (HLR.out.2.2.2 k hk).1 ho) (fun k hk ho => by have h1 := H4.out.2.2 k (.inl ho); have h3 := HLO.out; omega)
      have hos := open_s hd5 (crash_dry _ H9.out.2.1 keep) H9.out.1 (by rw [crash_acts]; have h1 := H9.out.2.2.1; have h2 := HLR.out.2.1; omega)
      have HOS := Lib.hid hos
      have H5 := Lib.hid (And.intro hd5 (And.intro hfw5 hwas5))
      clear hd5 hf5 hfw5 hwas5 hos
      go_wp2_with fail
      refine HOS.out.mono ?_
      rintro e w6 ⟨⟨q6, s6, v6, rfl, hl6, hq6, hsa, _, _⟩, hf6⟩
      have hus : usd L9 ≤ 65536 := by have h1 := hl6.gd.has.fits.1; have h2 := (hl6.gd.lk.few hl6.gd.dry.rt).2; have h3 : usd L9 ≤ hf s6.cur := h1; omega
      have hrc := Records_c hl6.lg (by show usd L9 ≤ _; omega)
      have HRC := Lib.hid hrc
      have hl9 : L9.length ≤ 100000 := by have := usd_ge L9; omega
      have hfw6 : Fp Non w w6 := H5.out.2.1.trans hf6 (fun k hk => .inr (Nat.le_trans HLO.out (H4.out.2.2 k (.inl hk))))
      have hwas6 := H5.out.2.2.keep hf6 (fun k hk ho => (HLR.out.2.2.2 k hk).1 ho) (fun k hk ho => by have h1 := H4.out.2.2 k (.inl ho); have h3 := HLO.out; omega)
      have hx6 : ∀ k, own3 b g m k ∨ ownL q6 v6 k → w1.heap.size ≤ k ∧ k < w6.heap.size := fun k hk => hk.elim (fun h => hl6.d.all k h) (fun h => hl6.lg.all k h)
      have H6 := Lib.hid (And.intro hfw6 (And.intro hwas6 (And.intro hl9 (And.intro hl6 (And.intro (show s6.acts ≤ 300 by have h1 := H9.out.2.2.1; have h2 := HLR.out.2.1; rw [crash_acts] at hsa; omega) hx6)))))
      clear hl6 hq6 hf6 hus hrc hl9 hfw6 hwas6 hx6 hsa
      go_wp2_with fail
      refine HRC.out.mono ?_
      rintro e w7 ⟨u7, rfl, hf7, hb7⟩
      obtain ⟨nao, ncap, rfl⟩ := hb7.shape
      have hnow : Bv (fun _ => True) w7 (.slice nao L9.length ncap) L9 := hb7.view (fun _ _ => trivial) (fun _ _ => trivial)
      have hwas7 : Bv (fun _ => True) w7 (.slice wao l.rs.length wcap) l.rs := (H6.out.2.1.keep hf7 (fun _ _ h => h) (fun _ _ h => h)).view (fun _ _ => trivial) (fun _ _ => trivial)
      have hfw7 := H6.out.1.then hf7
      obtain ⟨W8, hW8⟩ : ∃ W8, W8 = w7.alloc (.cells #[.slice bao M bcap] 24) := ⟨_, rfl⟩
      have hf8 : Fp Non w7 W8 := by rw [hW8]; exact (Fp.refl Non w7).alloc _
      have hsx : Sl W8 (.slice bao M bcap) bl := by rw [HB.out.2]; exact HB.out.1.keep (hfw7.then hf8) (fun _ _ h => h)
      have hnx : Bv (fun _ => True) W8 (.slice (some ⟨w7.heap.size, 0, none⟩) 1 1) [bl] := ⟨_, 1, rfl, fun _ => ⟨w7.heap.size, 0, rfl, trivial, fun k hk => by
        have hk0 : k = 0 := by simp at hk; omega
        subst hk0
        refine ⟨.slice bao M bcap, ?_, hsx.se, fun _ _ _ => trivial⟩
        rw [hW8, cell_of_row _ _ _ _ _ _ (heap_alloc_new w7 _)]; rfl⟩⟩
      have hsame := Same_c _ _ _ _ W8 (hnow.keep hf8 (fun _ _ h => h)) hnx (by have := H6.out.2.2.1; omega)
      have hl8 := (H6.out.2.2.2.1.non hf7).non hf8
      have hsz67 : w6.heap.size ≤ w7.heap.size := hf7.size
      have HS7 := Lib.hid hsz67
      have hbo8 := (hb7.keep hf8 (fun _ _ h => h) (fun _ _ h => h))
      have H8 := Lib.hid (And.intro (hfw7.then hf8) (And.intro (hnow.keep hf8 (fun _ _ h => h)) (And.intro (hwas7.keep hf8 (fun _ _ h => h)) (And.intro hl8 (And.intro hbo8 (Nat.le_trans hsz67 hf8.size))))))
      rw [hW8] at hsame
      have HSM := Lib.hid hsame
      have HW8 := Lib.hid hW8
      have HF78 := Lib.hid hf8
      clear hf7 hb7 hnow hwas7 hfw7 hf8 hsx hnx hsame hl8 hsz67 hbo8 hW8
      go_wp2_with fail
      refine HSM.out.mono ?_
      rintro e w9 ⟨rfl, hf9⟩
      rw [← HW8.out] at hf9
      have hf78 := HF78.out
      have H9b := Lib.hid (And.intro (H8.out.1.then hf9) (And.intro (H8.out.2.2.2.1.non hf9) (And.intro (H8.out.2.2.2.2.1.keep hf9 (fun _ _ h => h) (fun _ _ h => h)) (And.intro (hf78.then hf9).size (And.intro (H8.out.2.1.keep hf9 (fun _ _ h => h)) (H8.out.2.2.1.keep hf9 (fun _ _ h => h)))))))
      have H77 := Lib.hid (hf78.then hf9)
      clear hf9
      rcases H9.out.2.2.2 with ⟨h0, hL⟩ | ⟨h0, hL⟩ | ⟨h0, hL⟩ | ⟨h0, hL⟩
      · subst h0 hL
        rw [show decide ([bl] = [bl]) = true from decide_eq_true rfl]
        have hmore := const_sl w9 [109, 111, 114, 101] (by show 4 ≤ 1000; omega) (4, 5)
        have hfm : Fp Non w9 (w9.alloc (.cells (Lib.byteCells [109, 111, 114, 101]).toArray 5 (4, 5))) := (Fp.refl Non w9).alloc _
        have hlm := H9b.out.2.1.non hfm
        have happ := hlm.append _ [109, 111, 114, 101] (Src.of_sl hmore (fun k hk ho => by have h1 := (H9b.out.2.1.d.all k ho).2; simp [Value.ownBlock] at hk; omega)) (by have := H6.out.2.2.2.2.1; omega) (by show 4 ≤ 16384; omega)
        have kc := fun (w : World) (C : Array Value) (n c : Nat) => Lib.run_convert_bytes_const (P := Try.prog) w 24 5 C n c Try.underlying24 Try.underlying5
        have HAPM := Lib.hid happ
        have HM := Lib.hid (And.intro (H9b.out.1.then hfm) (And.intro hlm (And.intro (H9b.out.2.2.1.keep hfm (fun _ _ h => h) (fun _ _ h => h)) (Nat.le_trans H9b.out.2.2.2.1 hfm.size))))
        clear hmore hfm hlm happ
        go_wp2_with fail
        refine HAPM.out.mono ?_
        rintro e wA (⟨_, rfl, hS⟩ | ⟨_, rfl, hS⟩)
        · obtain ⟨s7, v7, hl7, hac7, _, _⟩ := hS.ex
          have hfA : Fp Non w wA := HM.out.1.trans hS.fp (fun k hk => .inr (Nat.le_trans HLO.out (H6.out.2.2.2.2.2 k hk).1))
          have hbA := HM.out.2.2.1.keep hS.fp (fun k hk ho => by have h1 := (HM.out.2.2.1.block k hk).1; have h2 := (H6.out.2.2.2.2.2 k ho).2; omega) (fun k hk ho => by have h1 := hk.1; have h2 := (H6.out.2.2.2.2.2 k ho).2; omega)
          have hos := open_s hl7.d hl7.gd.dry hl7.gd.has (by have := H6.out.2.2.2.2.1; omega)
          have HOSA := Lib.hid hos
          have HA := Lib.hid (And.intro hl7 (And.intro hfA hbA))
          clear hS hl7 hac7 hfA hbA hos
          go_wp2_with fail
          refine HOSA.out.mono ?_
          rintro e wB ⟨⟨q8, s8, v8, rfl, hl8, hq8, _, _, hs8⟩, hfB⟩
          obtain rfl := (hs8 HA.out.1.gd).symm
          have hrc := Records_c hl8.lg (by have h1 := hl8.gd.has.fits.1; have h2 := (hl8.gd.lk.few hl8.gd.dry.rt).2; omega)
          have HRCB := Lib.hid hrc
          have hbB := HA.out.2.2.keep hfB (fun k hk ho => by have h1 := (HM.out.2.2.1.block k hk).1; have h2 := (H6.out.2.2.2.2.2 k (.inl ho)).2; omega) (fun k hk ho => by have h1 := hk.1; have h2 := (H6.out.2.2.2.2.2 k (.inl ho)).2; omega)
          have HBB := Lib.hid (And.intro (HA.out.2.1.trans hfB (fun k hk => .inr (Nat.le_trans HLO.out (H6.out.2.2.2.2.2 k (.inl hk)).1))) hbB)
          clear hrc hl8 hq8 hfB hs8 hbB
          go_wp2_with fail
          refine HRCB.out.mono ?_
          rintro e wC ⟨uC, rfl, hfC, hbC⟩
          have hsame := Same_c _ _ _ _ wC (hbC.view (E := fun _ => True) (fun _ _ => trivial) (fun _ _ => trivial)) ((HBB.out.2.keep hfC (fun _ _ h => h) (fun _ _ h => h)).view (E := fun _ => True) (fun _ _ => trivial) (fun _ _ => trivial)) (by have := H6.out.2.2.1; show List.length [bl] ≤ _; omega)
          rw [show decide ([bl] = [bl]) = true from decide_eq_true rfl] at hsame
          obtain ⟨cao, ccap, rfl⟩ := hbC.shape
          try simp only [List.length_append, List.length_cons, List.length_nil, Nat.zero_add] at hsame
          have HSC := Lib.hid hsame
          have HFC := Lib.hid (HBB.out.1.then hfC)
          clear hfC hbC hsame
          go_wp2_with fail
          refine HSC.out.mono ?_
          rintro e wD ⟨rfl, hfD⟩
          have HFD := Lib.hid hfD
          clear hfD
          go_wp2
          all_goals go_ret
          all_goals exact ⟨rfl, HFC.out.then HFD.out⟩
        · obtain ⟨s7, v7, hl7, hac7, _, _⟩ := hS.ex
          have hfA : Fp Non w wA := HM.out.1.trans hS.fp (fun k hk => .inr (Nat.le_trans HLO.out (H6.out.2.2.2.2.2 k hk).1))
          have hbA := HM.out.2.2.1.keep hS.fp (fun k hk ho => by have h1 := (HM.out.2.2.1.block k hk).1; have h2 := (H6.out.2.2.2.2.2 k ho).2; omega) (fun k hk ho => by have h1 := hk.1; have h2 := (H6.out.2.2.2.2.2 k ho).2; omega)
          have hos := open_s hl7.d hl7.gd.dry hl7.gd.has (by have := H6.out.2.2.2.2.1; omega)
          have HOSA := Lib.hid hos
          have h6A : w7.heap.size ≤ wA.heap.size := Nat.le_trans HM.out.2.2.2 hS.fp.size
          have HA := Lib.hid (And.intro hl7 (And.intro hfA (And.intro hbA h6A)))
          clear hS hl7 hac7 hfA hbA hos h6A
          go_wp2_with fail
          refine HOSA.out.mono ?_
          rintro e wB ⟨⟨q8, s8, v8, rfl, hl8, hq8, _, _, hs8⟩, hfB⟩
          obtain rfl := (hs8 HA.out.1.gd).symm
          have hrc := Records_c hl8.lg (by have h1 := hl8.gd.has.fits.1; have h2 := (hl8.gd.lk.few hl8.gd.dry.rt).2; omega)
          have HRCB := Lib.hid hrc
          have hbB := HA.out.2.2.1.keep hfB (fun k hk ho => by have h1 := (HM.out.2.2.1.block k hk).1; have h2 := (H6.out.2.2.2.2.2 k (.inl ho)).2; omega) (fun k hk ho => by have h1 := hk.1; have h2 := (H6.out.2.2.2.2.2 k (.inl ho)).2; omega)
          have HBB := Lib.hid (And.intro (HA.out.2.1.trans hfB (fun k hk => .inr (Nat.le_trans HLO.out (H6.out.2.2.2.2.2 k (.inl hk)).1))) (And.intro hbB (Nat.le_trans HA.out.2.2.2 hfB.size)))
          clear hrc hl8 hq8 hfB hs8 hbB
          go_wp2_with fail
          refine HRCB.out.mono ?_
          rintro e wC ⟨uC, rfl, hfC, hbC⟩
          have hlit := const_sl wC [109, 111, 114, 101] (by show 4 ≤ 1000; omega) (4, 5)
          obtain ⟨wX, hwX⟩ : ∃ wX, wX = wC.alloc (.cells (Lib.byteCells [109, 111, 114, 101]).toArray 5 (4, 5)) := ⟨_, rfl⟩
          have hfX : Fp Non wC wX := by rw [hwX]; exact (Fp.refl Non wC).alloc _
          have hszX : wX.heap.size = wC.heap.size + 1 := by rw [hwX]; simp
          rw [← hwX] at hlit
          have hnowC := ((HBB.out.2.1.keep hfC (fun _ _ h => h) (fun _ _ h => h)).keep hfX (fun _ _ h => h) (fun _ _ h => h))
          have hsz6 : w6.heap.size ≤ wC.heap.size := Nat.le_trans HS7.out (Nat.le_trans HBB.out.2.2 hfC.size)
          have hsz7 : ∀ k, w6.heap.size ≤ k ∧ k < w7.heap.size → k < wX.heap.size := fun k hk => by have h3 := hfC.size; have h4 := HBB.out.2.2; omega
          have hnowD := hnowC.wide (E := fun k => w6.heap.size ≤ k ∧ k < wX.heap.size) (fun k hk => ⟨hk.1, hsz7 k hk⟩)
          have hblkC := HBB.out.2.1.block
          have hap := app_bs wX w6.heap.size _ _ _ _ _ 23 hnowD hlit.se (fun _ k hk => ⟨by simp [Value.ownBlock] at hk; omega, fun e => by have h1 := (hblkC k e).2; have h2 := hfC.size; simp [Value.ownBlock] at hk; omega⟩) (by have := H6.out.2.2.1; show List.length [bl] ≤ _; omega) (by omega) (fun k hk => hk.2)
          rw [hszX] at hap
          rw [hwX] at hap
          try simp only [List.length_append, List.length_cons, List.length_nil, Nat.zero_add] at hap
          have HAPX := Lib.hid hap
          have hvwC := (hbC.view (E := fun k => wB.heap.size ≤ k) (fun k hk => hk.1) (fun k hk => (hbC.block k hk).1)).keep hfX (fun _ _ h => h)
          obtain ⟨cao, ccap, rfl⟩ := hbC.shape
          have HCX := Lib.hid (And.intro (HBB.out.1.then (hfC.then hfX)) (And.intro hvwC (And.intro hwX hblkC)))
          clear hfC hbC hlit hfX hszX hnowC hsz6 hsz7 hnowD hblkC hap hvwC hwX
          go_wp2_with (at_builtin; go_must (refine wpList_app_g rfl _ _ _ _ rfl _ _ rfl rfl _ HAPX.out ?_))
          intro vX wY hRX
          rw [← HCX.out.2.2.1] at hRX
          have hfXY : Fp (fun k => (Value.slice nao [bl].length ncap).ownBlock = some k) wX wY := hRX.fp (Fp.refl _ wX) (fun k hk => .inl hk)
          have hfY : Fp Non w wY := HCX.out.1.trans hfXY (fun k hk => .inr (Nat.le_trans H6.out.1.size (HCX.out.2.2.2 k hk).1))
          have huY := HCX.out.2.1.keep hfXY (fun k hE hS => by have h1 := (HCX.out.2.2.2 k hS).2; omega)
          have hsame := Same_c _ _ _ _ wY huY (hRX.bo.view (E := fun _ => True) (fun _ _ => trivial) (fun _ _ => trivial)) (by have := H6.out.2.2.1; show List.length ([bl] ++ [[109, 111, 114, 101]]) ≤ _; rw [List.length_append]; show List.length [bl] + 1 ≤ _; omega)
          obtain ⟨yao, ycap, rfl⟩ := hRX.bo.shape
          simp only [List.cons_append, List.nil_append, eq_self, decide_true, List.length_append, List.length_cons, List.length_nil, Nat.zero_add] at hsame
          have HSY := Lib.hid hsame
          have HFY := Lib.hid hfY
          clear hRX hfXY hfY huY hsame
          go_wp2_with fail
          refine HSY.out.mono ?_
          rintro e wZ ⟨rfl, hfZ⟩
          have HFZ := Lib.hid hfZ
          clear hfZ
          go_wp2
          all_goals go_ret
          all_goals exact ⟨rfl, HFY.out.then HFZ.out⟩
      · subst h0 hL
        by_cases hq : l.rs = [bl]
        · rw [show decide (l.rs = [bl]) = true from decide_eq_true hq]
          have HQ := Lib.hid hq
          clear hq
          have hmore := const_sl w9 [109, 111, 114, 101] (by show 4 ≤ 1000; omega) (4, 5)
          have hfm : Fp Non w9 (w9.alloc (.cells (Lib.byteCells [109, 111, 114, 101]).toArray 5 (4, 5))) := (Fp.refl Non w9).alloc _
          have hlm := H9b.out.2.1.non hfm
          have happ := hlm.append _ [109, 111, 114, 101] (Src.of_sl hmore (fun k hk ho => by have h1 := (H9b.out.2.1.d.all k ho).2; simp [Value.ownBlock] at hk; omega)) (by have := H6.out.2.2.2.2.1; omega) (by show 4 ≤ 16384; omega)
          have kc := fun (w : World) (C : Array Value) (n c : Nat) => Lib.run_convert_bytes_const (P := Try.prog) w 24 5 C n c Try.underlying24 Try.underlying5
          have HAPM := Lib.hid happ
          have HM := Lib.hid (And.intro (H9b.out.1.then hfm) (And.intro hlm (And.intro (H9b.out.2.2.1.keep hfm (fun _ _ h => h) (fun _ _ h => h)) (Nat.le_trans H9b.out.2.2.2.1 hfm.size))))
          clear hmore hfm hlm happ
          go_wp2_with fail
          refine HAPM.out.mono ?_
          rintro e wA (⟨_, rfl, hS⟩ | ⟨_, rfl, hS⟩)
          · obtain ⟨s7, v7, hl7, hac7, _, _⟩ := hS.ex
            have hfA : Fp Non w wA := HM.out.1.trans hS.fp (fun k hk => .inr (Nat.le_trans HLO.out (H6.out.2.2.2.2.2 k hk).1))
            have hbA := HM.out.2.2.1.keep hS.fp (fun k hk ho => by have h1 := (HM.out.2.2.1.block k hk).1; have h2 := (H6.out.2.2.2.2.2 k ho).2; omega) (fun k hk ho => by have h1 := hk.1; have h2 := (H6.out.2.2.2.2.2 k ho).2; omega)
            have hos := open_s hl7.d hl7.gd.dry hl7.gd.has (by have := H6.out.2.2.2.2.1; omega)
            have HOSA := Lib.hid hos
            have HA := Lib.hid (And.intro hl7 (And.intro hfA hbA))
            clear hS hl7 hac7 hfA hbA hos
            go_wp2_with fail
            refine HOSA.out.mono ?_
            rintro e wB ⟨⟨q8, s8, v8, rfl, hl8, hq8, _, _, hs8⟩, hfB⟩
            obtain rfl := (hs8 HA.out.1.gd).symm
            have hrc := Records_c hl8.lg (by have h1 := hl8.gd.has.fits.1; have h2 := (hl8.gd.lk.few hl8.gd.dry.rt).2; omega)
            have HRCB := Lib.hid hrc
            have hbB := HA.out.2.2.keep hfB (fun k hk ho => by have h1 := (HM.out.2.2.1.block k hk).1; have h2 := (H6.out.2.2.2.2.2 k (.inl ho)).2; omega) (fun k hk ho => by have h1 := hk.1; have h2 := (H6.out.2.2.2.2.2 k (.inl ho)).2; omega)
            have HBB := Lib.hid (And.intro (HA.out.2.1.trans hfB (fun k hk => .inr (Nat.le_trans HLO.out (H6.out.2.2.2.2.2 k (.inl hk)).1))) hbB)
            clear hrc hl8 hq8 hfB hs8 hbB
            go_wp2_with fail
            refine HRCB.out.mono ?_
            rintro e wC ⟨uC, rfl, hfC, hbC⟩
            have hsame := Same_c _ _ _ _ wC (hbC.view (E := fun _ => True) (fun _ _ => trivial) (fun _ _ => trivial)) ((HBB.out.2.keep hfC (fun _ _ h => h) (fun _ _ h => h)).view (E := fun _ => True) (fun _ _ => trivial) (fun _ _ => trivial)) (by have := H6.out.2.2.1; show List.length l.rs ≤ _; omega)
            rw [show decide (l.rs = l.rs) = true from decide_eq_true rfl] at hsame
            obtain ⟨cao, ccap, rfl⟩ := hbC.shape
            try simp only [List.length_append, List.length_cons, List.length_nil, Nat.zero_add] at hsame
            have HSC := Lib.hid hsame
            have HFC := Lib.hid (HBB.out.1.then hfC)
            clear hfC hbC hsame
            go_wp2_with fail
            refine HSC.out.mono ?_
            rintro e wD ⟨rfl, hfD⟩
            have HFD := Lib.hid hfD
            clear hfD
            go_wp2
            all_goals go_ret
            all_goals exact ⟨rfl, HFC.out.then HFD.out⟩
          · obtain ⟨s7, v7, hl7, hac7, _, _⟩ := hS.ex
            have hfA : Fp Non w wA := HM.out.1.trans hS.fp (fun k hk => .inr (Nat.le_trans HLO.out (H6.out.2.2.2.2.2 k hk).1))
            have hbA := HM.out.2.2.1.keep hS.fp (fun k hk ho => by have h1 := (HM.out.2.2.1.block k hk).1; have h2 := (H6.out.2.2.2.2.2 k ho).2; omega) (fun k hk ho => by have h1 := hk.1; have h2 := (H6.out.2.2.2.2.2 k ho).2; omega)
            have hos := open_s hl7.d hl7.gd.dry hl7.gd.has (by have := H6.out.2.2.2.2.1; omega)
            have HOSA := Lib.hid hos
            have h6A : w7.heap.size ≤ wA.heap.size := Nat.le_trans HM.out.2.2.2 hS.fp.size
            have HA := Lib.hid (And.intro hl7 (And.intro hfA (And.intro hbA h6A)))
            clear hS hl7 hac7 hfA hbA hos h6A
            go_wp2_with fail
            refine HOSA.out.mono ?_
            rintro e wB ⟨⟨q8, s8, v8, rfl, hl8, hq8, _, _, hs8⟩, hfB⟩
            obtain rfl := (hs8 HA.out.1.gd).symm
            have hrc := Records_c hl8.lg (by have h1 := hl8.gd.has.fits.1; have h2 := (hl8.gd.lk.few hl8.gd.dry.rt).2; omega)
            have HRCB := Lib.hid hrc
            have hbB := HA.out.2.2.1.keep hfB (fun k hk ho => by have h1 := (HM.out.2.2.1.block k hk).1; have h2 := (H6.out.2.2.2.2.2 k (.inl ho)).2; omega) (fun k hk ho => by have h1 := hk.1; have h2 := (H6.out.2.2.2.2.2 k (.inl ho)).2; omega)
            have HBB := Lib.hid (And.intro (HA.out.2.1.trans hfB (fun k hk => .inr (Nat.le_trans HLO.out (H6.out.2.2.2.2.2 k (.inl hk)).1))) (And.intro hbB (Nat.le_trans HA.out.2.2.2 hfB.size)))
            clear hrc hl8 hq8 hfB hs8 hbB
            go_wp2_with fail
            refine HRCB.out.mono ?_
            rintro e wC ⟨uC, rfl, hfC, hbC⟩
            have hlit := const_sl wC [109, 111, 114, 101] (by show 4 ≤ 1000; omega) (4, 5)
            obtain ⟨wX, hwX⟩ : ∃ wX, wX = wC.alloc (.cells (Lib.byteCells [109, 111, 114, 101]).toArray 5 (4, 5)) := ⟨_, rfl⟩
            have hfX : Fp Non wC wX := by rw [hwX]; exact (Fp.refl Non wC).alloc _
            have hszX : wX.heap.size = wC.heap.size + 1 := by rw [hwX]; simp
            rw [← hwX] at hlit
            have hnowC := ((HBB.out.2.1.keep hfC (fun _ _ h => h) (fun _ _ h => h)).keep hfX (fun _ _ h => h) (fun _ _ h => h))
            have hsz6 : w6.heap.size ≤ wC.heap.size := Nat.le_trans HS7.out (Nat.le_trans HBB.out.2.2 hfC.size)
            have hsz7 : ∀ k, w6.heap.size ≤ k ∧ k < w7.heap.size → k < wX.heap.size := fun k hk => by have h3 := hfC.size; have h4 := HBB.out.2.2; omega
            have hnowD := hnowC.wide (E := fun k => w6.heap.size ≤ k ∧ k < wX.heap.size) (fun k hk => ⟨hk.1, hsz7 k hk⟩)
            have hblkC := HBB.out.2.1.block
            have hap := app_bs wX w6.heap.size _ _ _ _ _ 23 hnowD hlit.se (fun _ k hk => ⟨by simp [Value.ownBlock] at hk; omega, fun e => by have h1 := (hblkC k e).2; have h2 := hfC.size; simp [Value.ownBlock] at hk; omega⟩) (by have := H6.out.2.2.1; show List.length l.rs ≤ _; omega) (by omega) (fun k hk => hk.2)
            rw [hszX] at hap
            rw [hwX] at hap
            try simp only [List.length_append, List.length_cons, List.length_nil, Nat.zero_add] at hap
            have HAPX := Lib.hid hap
            have hvwC := (hbC.view (E := fun k => wB.heap.size ≤ k) (fun k hk => hk.1) (fun k hk => (hbC.block k hk).1)).keep hfX (fun _ _ h => h)
            obtain ⟨cao, ccap, rfl⟩ := hbC.shape
            have HCX := Lib.hid (And.intro (HBB.out.1.then (hfC.then hfX)) (And.intro hvwC (And.intro hwX hblkC)))
            clear hfC hbC hlit hfX hszX hnowC hsz6 hsz7 hnowD hblkC hap hvwC hwX
            go_wp2_with (at_builtin; go_must (refine wpList_app_g rfl _ _ _ _ rfl _ _ rfl rfl _ HAPX.out ?_))
            intro vX wY hRX
            rw [← HCX.out.2.2.1] at hRX
            have hfXY : Fp (fun k => (Value.slice nao l.rs.length ncap).ownBlock = some k) wX wY := hRX.fp (Fp.refl _ wX) (fun k hk => .inl hk)
            have hfY : Fp Non w wY := HCX.out.1.trans hfXY (fun k hk => .inr (Nat.le_trans H6.out.1.size (HCX.out.2.2.2 k hk).1))
            have huY := HCX.out.2.1.keep hfXY (fun k hE hS => by have h1 := (HCX.out.2.2.2 k hS).2; omega)
            have hsame := Same_c _ _ _ _ wY huY (hRX.bo.view (E := fun _ => True) (fun _ _ => trivial) (fun _ _ => trivial)) (by have := H6.out.2.2.1; show List.length (l.rs ++ [[109, 111, 114, 101]]) ≤ _; rw [List.length_append]; show List.length l.rs + 1 ≤ _; omega)
            obtain ⟨yao, ycap, rfl⟩ := hRX.bo.shape
            simp only [List.cons_append, List.nil_append, eq_self, decide_true, List.length_append, List.length_cons, List.length_nil, Nat.zero_add] at hsame
            have HSY := Lib.hid hsame
            have HFY := Lib.hid hfY
            clear hRX hfXY hfY huY hsame
            go_wp2_with fail
            refine HSY.out.mono ?_
            rintro e wZ ⟨rfl, hfZ⟩
            have HFZ := Lib.hid hfZ
            clear hfZ
            go_wp2
            all_goals go_ret
            all_goals exact ⟨rfl, HFY.out.then HFZ.out⟩
        · rw [show decide (l.rs = [bl]) = false from decide_eq_false hq]
          clear hq
          have hsw := Same_c _ _ _ _ w9 H9b.out.2.2.2.2.1 H9b.out.2.2.2.2.2 (by have := H6.out.2.2.1; omega)
          rw [show decide (l.rs = l.rs) = true from decide_eq_true rfl] at hsw
          have HSW := Lib.hid hsw
          clear hsw
          go_wp2_with fail
          refine HSW.out.mono ?_
          rintro e w10 ⟨rfl, hf10⟩
          have H10 := Lib.hid (And.intro (H9b.out.1.then hf10) (And.intro (H9b.out.2.1.non hf10) (And.intro (H9b.out.2.2.1.keep hf10 (fun _ _ h => h) (fun _ _ h => h)) (Nat.le_trans H9b.out.2.2.2.1 hf10.size))))
          clear hf10
          have hmore := const_sl w10 [109, 111, 114, 101] (by show 4 ≤ 1000; omega) (4, 5)
          have hfm : Fp Non w10 (w10.alloc (.cells (Lib.byteCells [109, 111, 114, 101]).toArray 5 (4, 5))) := (Fp.refl Non w10).alloc _
          have hlm := H10.out.2.1.non hfm
          have happ := hlm.append _ [109, 111, 114, 101] (Src.of_sl hmore (fun k hk ho => by have h1 := (H10.out.2.1.d.all k ho).2; simp [Value.ownBlock] at hk; omega)) (by have := H6.out.2.2.2.2.1; omega) (by show 4 ≤ 16384; omega)
          have kc := fun (w : World) (C : Array Value) (n c : Nat) => Lib.run_convert_bytes_const (P := Try.prog) w 24 5 C n c Try.underlying24 Try.underlying5
          have HAPM := Lib.hid happ
          have HM := Lib.hid (And.intro (H10.out.1.then hfm) (And.intro hlm (And.intro (H10.out.2.2.1.keep hfm (fun _ _ h => h) (fun _ _ h => h)) (Nat.le_trans H10.out.2.2.2 hfm.size))))
          clear hmore hfm hlm happ
          go_wp2_with fail
          refine HAPM.out.mono ?_
          rintro e wA (⟨_, rfl, hS⟩ | ⟨_, rfl, hS⟩)
          · obtain ⟨s7, v7, hl7, hac7, _, _⟩ := hS.ex
            have hfA : Fp Non w wA := HM.out.1.trans hS.fp (fun k hk => .inr (Nat.le_trans HLO.out (H6.out.2.2.2.2.2 k hk).1))
            have hbA := HM.out.2.2.1.keep hS.fp (fun k hk ho => by have h1 := (HM.out.2.2.1.block k hk).1; have h2 := (H6.out.2.2.2.2.2 k ho).2; omega) (fun k hk ho => by have h1 := hk.1; have h2 := (H6.out.2.2.2.2.2 k ho).2; omega)
            have hos := open_s hl7.d hl7.gd.dry hl7.gd.has (by have := H6.out.2.2.2.2.1; omega)
            have HOSA := Lib.hid hos
            have HA := Lib.hid (And.intro hl7 (And.intro hfA hbA))
            clear hS hl7 hac7 hfA hbA hos
            go_wp2_with fail
            refine HOSA.out.mono ?_
            rintro e wB ⟨⟨q8, s8, v8, rfl, hl8, hq8, _, _, hs8⟩, hfB⟩
            obtain rfl := (hs8 HA.out.1.gd).symm
            have hrc := Records_c hl8.lg (by have h1 := hl8.gd.has.fits.1; have h2 := (hl8.gd.lk.few hl8.gd.dry.rt).2; omega)
            have HRCB := Lib.hid hrc
            have hbB := HA.out.2.2.keep hfB (fun k hk ho => by have h1 := (HM.out.2.2.1.block k hk).1; have h2 := (H6.out.2.2.2.2.2 k (.inl ho)).2; omega) (fun k hk ho => by have h1 := hk.1; have h2 := (H6.out.2.2.2.2.2 k (.inl ho)).2; omega)
            have HBB := Lib.hid (And.intro (HA.out.2.1.trans hfB (fun k hk => .inr (Nat.le_trans HLO.out (H6.out.2.2.2.2.2 k (.inl hk)).1))) hbB)
            clear hrc hl8 hq8 hfB hs8 hbB
            go_wp2_with fail
            refine HRCB.out.mono ?_
            rintro e wC ⟨uC, rfl, hfC, hbC⟩
            have hsame := Same_c _ _ _ _ wC (hbC.view (E := fun _ => True) (fun _ _ => trivial) (fun _ _ => trivial)) ((HBB.out.2.keep hfC (fun _ _ h => h) (fun _ _ h => h)).view (E := fun _ => True) (fun _ _ => trivial) (fun _ _ => trivial)) (by have := H6.out.2.2.1; show List.length l.rs ≤ _; omega)
            rw [show decide (l.rs = l.rs) = true from decide_eq_true rfl] at hsame
            obtain ⟨cao, ccap, rfl⟩ := hbC.shape
            try simp only [List.length_append, List.length_cons, List.length_nil, Nat.zero_add] at hsame
            have HSC := Lib.hid hsame
            have HFC := Lib.hid (HBB.out.1.then hfC)
            clear hfC hbC hsame
            go_wp2_with fail
            refine HSC.out.mono ?_
            rintro e wD ⟨rfl, hfD⟩
            have HFD := Lib.hid hfD
            clear hfD
            go_wp2
            all_goals go_ret
            all_goals exact ⟨rfl, HFC.out.then HFD.out⟩
          · obtain ⟨s7, v7, hl7, hac7, _, _⟩ := hS.ex
            have hfA : Fp Non w wA := HM.out.1.trans hS.fp (fun k hk => .inr (Nat.le_trans HLO.out (H6.out.2.2.2.2.2 k hk).1))
            have hbA := HM.out.2.2.1.keep hS.fp (fun k hk ho => by have h1 := (HM.out.2.2.1.block k hk).1; have h2 := (H6.out.2.2.2.2.2 k ho).2; omega) (fun k hk ho => by have h1 := hk.1; have h2 := (H6.out.2.2.2.2.2 k ho).2; omega)
            have hos := open_s hl7.d hl7.gd.dry hl7.gd.has (by have := H6.out.2.2.2.2.1; omega)
            have HOSA := Lib.hid hos
            have h6A : w7.heap.size ≤ wA.heap.size := Nat.le_trans HM.out.2.2.2 hS.fp.size
            have HA := Lib.hid (And.intro hl7 (And.intro hfA (And.intro hbA h6A)))
            clear hS hl7 hac7 hfA hbA hos h6A
            go_wp2_with fail
            refine HOSA.out.mono ?_
            rintro e wB ⟨⟨q8, s8, v8, rfl, hl8, hq8, _, _, hs8⟩, hfB⟩
            obtain rfl := (hs8 HA.out.1.gd).symm
            have hrc := Records_c hl8.lg (by have h1 := hl8.gd.has.fits.1; have h2 := (hl8.gd.lk.few hl8.gd.dry.rt).2; omega)
            have HRCB := Lib.hid hrc
            have hbB := HA.out.2.2.1.keep hfB (fun k hk ho => by have h1 := (HM.out.2.2.1.block k hk).1; have h2 := (H6.out.2.2.2.2.2 k (.inl ho)).2; omega) (fun k hk ho => by have h1 := hk.1; have h2 := (H6.out.2.2.2.2.2 k (.inl ho)).2; omega)
            have HBB := Lib.hid (And.intro (HA.out.2.1.trans hfB (fun k hk => .inr (Nat.le_trans HLO.out (H6.out.2.2.2.2.2 k (.inl hk)).1))) (And.intro hbB (Nat.le_trans HA.out.2.2.2 hfB.size)))
            clear hrc hl8 hq8 hfB hs8 hbB
            go_wp2_with fail
            refine HRCB.out.mono ?_
            rintro e wC ⟨uC, rfl, hfC, hbC⟩
            have hlit := const_sl wC [109, 111, 114, 101] (by show 4 ≤ 1000; omega) (4, 5)
            obtain ⟨wX, hwX⟩ : ∃ wX, wX = wC.alloc (.cells (Lib.byteCells [109, 111, 114, 101]).toArray 5 (4, 5)) := ⟨_, rfl⟩
            have hfX : Fp Non wC wX := by rw [hwX]; exact (Fp.refl Non wC).alloc _
            have hszX : wX.heap.size = wC.heap.size + 1 := by rw [hwX]; simp
            rw [← hwX] at hlit
            have hnowC := ((HBB.out.2.1.keep hfC (fun _ _ h => h) (fun _ _ h => h)).keep hfX (fun _ _ h => h) (fun _ _ h => h))
            have hsz6 : w6.heap.size ≤ wC.heap.size := Nat.le_trans HS7.out (Nat.le_trans HBB.out.2.2 hfC.size)
            have hsz7 : ∀ k, w6.heap.size ≤ k ∧ k < w7.heap.size → k < wX.heap.size := fun k hk => by have h3 := hfC.size; have h4 := HBB.out.2.2; omega
            have hnowD := hnowC.wide (E := fun k => w6.heap.size ≤ k ∧ k < wX.heap.size) (fun k hk => ⟨hk.1, hsz7 k hk⟩)
            have hblkC := HBB.out.2.1.block
            have hap := app_bs wX w6.heap.size _ _ _ _ _ 23 hnowD hlit.se (fun _ k hk => ⟨by simp [Value.ownBlock] at hk; omega, fun e => by have h1 := (hblkC k e).2; have h2 := hfC.size; simp [Value.ownBlock] at hk; omega⟩) (by have := H6.out.2.2.1; show List.length l.rs ≤ _; omega) (by omega) (fun k hk => hk.2)
            rw [hszX] at hap
            rw [hwX] at hap
            try simp only [List.length_append, List.length_cons, List.length_nil, Nat.zero_add] at hap
            have HAPX := Lib.hid hap
            have hvwC := (hbC.view (E := fun k => wB.heap.size ≤ k) (fun k hk => hk.1) (fun k hk => (hbC.block k hk).1)).keep hfX (fun _ _ h => h)
            obtain ⟨cao, ccap, rfl⟩ := hbC.shape
            have HCX := Lib.hid (And.intro (HBB.out.1.then (hfC.then hfX)) (And.intro hvwC (And.intro hwX hblkC)))
            clear hfC hbC hlit hfX hszX hnowC hsz6 hsz7 hnowD hblkC hap hvwC hwX
            go_wp2_with (at_builtin; go_must (refine wpList_app_g rfl _ _ _ _ rfl _ _ rfl rfl _ HAPX.out ?_))
            intro vX wY hRX
            rw [← HCX.out.2.2.1] at hRX
            have hfXY : Fp (fun k => (Value.slice nao l.rs.length ncap).ownBlock = some k) wX wY := hRX.fp (Fp.refl _ wX) (fun k hk => .inl hk)
            have hfY : Fp Non w wY := HCX.out.1.trans hfXY (fun k hk => .inr (Nat.le_trans H6.out.1.size (HCX.out.2.2.2 k hk).1))
            have huY := HCX.out.2.1.keep hfXY (fun k hE hS => by have h1 := (HCX.out.2.2.2 k hS).2; omega)
            have hsame := Same_c _ _ _ _ wY huY (hRX.bo.view (E := fun _ => True) (fun _ _ => trivial) (fun _ _ => trivial)) (by have := H6.out.2.2.1; show List.length (l.rs ++ [[109, 111, 114, 101]]) ≤ _; rw [List.length_append]; show List.length l.rs + 1 ≤ _; omega)
            obtain ⟨yao, ycap, rfl⟩ := hRX.bo.shape
            simp only [List.cons_append, List.nil_append, eq_self, decide_true, List.length_append, List.length_cons, List.length_nil, Nat.zero_add] at hsame
            have HSY := Lib.hid hsame
            have HFY := Lib.hid hfY
            clear hRX hfXY hfY huY hsame
            go_wp2_with fail
            refine HSY.out.mono ?_
            rintro e wZ ⟨rfl, hfZ⟩
            have HFZ := Lib.hid hfZ
            clear hfZ
            go_wp2
            all_goals go_ret
            all_goals exact ⟨rfl, HFY.out.then HFZ.out⟩
      · subst h0 hL
        by_cases hq : l.rs = [bl]
        · rw [show decide (l.rs = [bl]) = true from decide_eq_true hq]
          have HQ := Lib.hid hq
          clear hq
          have hmore := const_sl w9 [109, 111, 114, 101] (by show 4 ≤ 1000; omega) (4, 5)
          have hfm : Fp Non w9 (w9.alloc (.cells (Lib.byteCells [109, 111, 114, 101]).toArray 5 (4, 5))) := (Fp.refl Non w9).alloc _
          have hlm := H9b.out.2.1.non hfm
          have happ := hlm.append _ [109, 111, 114, 101] (Src.of_sl hmore (fun k hk ho => by have h1 := (H9b.out.2.1.d.all k ho).2; simp [Value.ownBlock] at hk; omega)) (by have := H6.out.2.2.2.2.1; omega) (by show 4 ≤ 16384; omega)
          have kc := fun (w : World) (C : Array Value) (n c : Nat) => Lib.run_convert_bytes_const (P := Try.prog) w 24 5 C n c Try.underlying24 Try.underlying5
          have HAPM := Lib.hid happ
          have HM := Lib.hid (And.intro (H9b.out.1.then hfm) (And.intro hlm (And.intro (H9b.out.2.2.1.keep hfm (fun _ _ h => h) (fun _ _ h => h)) (Nat.le_trans H9b.out.2.2.2.1 hfm.size))))
          clear hmore hfm hlm happ
          go_wp2_with fail
          refine HAPM.out.mono ?_
          rintro e wA (⟨_, rfl, hS⟩ | ⟨_, rfl, hS⟩)
          · obtain ⟨s7, v7, hl7, hac7, _, _⟩ := hS.ex
            have hfA : Fp Non w wA := HM.out.1.trans hS.fp (fun k hk => .inr (Nat.le_trans HLO.out (H6.out.2.2.2.2.2 k hk).1))
            have hbA := HM.out.2.2.1.keep hS.fp (fun k hk ho => by have h1 := (HM.out.2.2.1.block k hk).1; have h2 := (H6.out.2.2.2.2.2 k ho).2; omega) (fun k hk ho => by have h1 := hk.1; have h2 := (H6.out.2.2.2.2.2 k ho).2; omega)
            have hos := open_s hl7.d hl7.gd.dry hl7.gd.has (by have := H6.out.2.2.2.2.1; omega)
            have HOSA := Lib.hid hos
            have HA := Lib.hid (And.intro hl7 (And.intro hfA hbA))
            clear hS hl7 hac7 hfA hbA hos
            go_wp2_with fail
            refine HOSA.out.mono ?_
            rintro e wB ⟨⟨q8, s8, v8, rfl, hl8, hq8, _, _, hs8⟩, hfB⟩
            obtain rfl := (hs8 HA.out.1.gd).symm
            have hrc := Records_c hl8.lg (by have h1 := hl8.gd.has.fits.1; have h2 := (hl8.gd.lk.few hl8.gd.dry.rt).2; omega)
            have HRCB := Lib.hid hrc
            have hbB := HA.out.2.2.keep hfB (fun k hk ho => by have h1 := (HM.out.2.2.1.block k hk).1; have h2 := (H6.out.2.2.2.2.2 k (.inl ho)).2; omega) (fun k hk ho => by have h1 := hk.1; have h2 := (H6.out.2.2.2.2.2 k (.inl ho)).2; omega)
            have HBB := Lib.hid (And.intro (HA.out.2.1.trans hfB (fun k hk => .inr (Nat.le_trans HLO.out (H6.out.2.2.2.2.2 k (.inl hk)).1))) hbB)
            clear hrc hl8 hq8 hfB hs8 hbB
            go_wp2_with fail
            refine HRCB.out.mono ?_
            rintro e wC ⟨uC, rfl, hfC, hbC⟩
            have hsame := Same_c _ _ _ _ wC (hbC.view (E := fun _ => True) (fun _ _ => trivial) (fun _ _ => trivial)) ((HBB.out.2.keep hfC (fun _ _ h => h) (fun _ _ h => h)).view (E := fun _ => True) (fun _ _ => trivial) (fun _ _ => trivial)) (by have := H6.out.2.2.1; show List.length l.rs ≤ _; omega)
            rw [show decide (l.rs = l.rs) = true from decide_eq_true rfl] at hsame
            obtain ⟨cao, ccap, rfl⟩ := hbC.shape
            try simp only [List.length_append, List.length_cons, List.length_nil, Nat.zero_add] at hsame
            have HSC := Lib.hid hsame
            have HFC := Lib.hid (HBB.out.1.then hfC)
            clear hfC hbC hsame
            go_wp2_with fail
            refine HSC.out.mono ?_
            rintro e wD ⟨rfl, hfD⟩
            have HFD := Lib.hid hfD
            clear hfD
            go_wp2
            all_goals go_ret
            all_goals exact ⟨rfl, HFC.out.then HFD.out⟩
          · obtain ⟨s7, v7, hl7, hac7, _, _⟩ := hS.ex
            have hfA : Fp Non w wA := HM.out.1.trans hS.fp (fun k hk => .inr (Nat.le_trans HLO.out (H6.out.2.2.2.2.2 k hk).1))
            have hbA := HM.out.2.2.1.keep hS.fp (fun k hk ho => by have h1 := (HM.out.2.2.1.block k hk).1; have h2 := (H6.out.2.2.2.2.2 k ho).2; omega) (fun k hk ho => by have h1 := hk.1; have h2 := (H6.out.2.2.2.2.2 k ho).2; omega)
            have hos := open_s hl7.d hl7.gd.dry hl7.gd.has (by have := H6.out.2.2.2.2.1; omega)
            have HOSA := Lib.hid hos
            have h6A : w7.heap.size ≤ wA.heap.size := Nat.le_trans HM.out.2.2.2 hS.fp.size
            have HA := Lib.hid (And.intro hl7 (And.intro hfA (And.intro hbA h6A)))
            clear hS hl7 hac7 hfA hbA hos h6A
            go_wp2_with fail
            refine HOSA.out.mono ?_
            rintro e wB ⟨⟨q8, s8, v8, rfl, hl8, hq8, _, _, hs8⟩, hfB⟩
            obtain rfl := (hs8 HA.out.1.gd).symm
            have hrc := Records_c hl8.lg (by have h1 := hl8.gd.has.fits.1; have h2 := (hl8.gd.lk.few hl8.gd.dry.rt).2; omega)
            have HRCB := Lib.hid hrc
            have hbB := HA.out.2.2.1.keep hfB (fun k hk ho => by have h1 := (HM.out.2.2.1.block k hk).1; have h2 := (H6.out.2.2.2.2.2 k (.inl ho)).2; omega) (fun k hk ho => by have h1 := hk.1; have h2 := (H6.out.2.2.2.2.2 k (.inl ho)).2; omega)
            have HBB := Lib.hid (And.intro (HA.out.2.1.trans hfB (fun k hk => .inr (Nat.le_trans HLO.out (H6.out.2.2.2.2.2 k (.inl hk)).1))) (And.intro hbB (Nat.le_trans HA.out.2.2.2 hfB.size)))
            clear hrc hl8 hq8 hfB hs8 hbB
            go_wp2_with fail
            refine HRCB.out.mono ?_
            rintro e wC ⟨uC, rfl, hfC, hbC⟩
            have hlit := const_sl wC [109, 111, 114, 101] (by show 4 ≤ 1000; omega) (4, 5)
            obtain ⟨wX, hwX⟩ : ∃ wX, wX = wC.alloc (.cells (Lib.byteCells [109, 111, 114, 101]).toArray 5 (4, 5)) := ⟨_, rfl⟩
            have hfX : Fp Non wC wX := by rw [hwX]; exact (Fp.refl Non wC).alloc _
            have hszX : wX.heap.size = wC.heap.size + 1 := by rw [hwX]; simp
            rw [← hwX] at hlit
            have hnowC := ((HBB.out.2.1.keep hfC (fun _ _ h => h) (fun _ _ h => h)).keep hfX (fun _ _ h => h) (fun _ _ h => h))
            have hsz6 : w6.heap.size ≤ wC.heap.size := Nat.le_trans HS7.out (Nat.le_trans HBB.out.2.2 hfC.size)
            have hsz7 : ∀ k, w6.heap.size ≤ k ∧ k < w7.heap.size → k < wX.heap.size := fun k hk => by have h3 := hfC.size; have h4 := HBB.out.2.2; omega
            have hnowD := hnowC.wide (E := fun k => w6.heap.size ≤ k ∧ k < wX.heap.size) (fun k hk => ⟨hk.1, hsz7 k hk⟩)
            have hblkC := HBB.out.2.1.block
            have hap := app_bs wX w6.heap.size _ _ _ _ _ 23 hnowD hlit.se (fun _ k hk => ⟨by simp [Value.ownBlock] at hk; omega, fun e => by have h1 := (hblkC k e).2; have h2 := hfC.size; simp [Value.ownBlock] at hk; omega⟩) (by have := H6.out.2.2.1; show List.length l.rs ≤ _; omega) (by omega) (fun k hk => hk.2)
            rw [hszX] at hap
            rw [hwX] at hap
            try simp only [List.length_append, List.length_cons, List.length_nil, Nat.zero_add] at hap
            have HAPX := Lib.hid hap
            have hvwC := (hbC.view (E := fun k => wB.heap.size ≤ k) (fun k hk => hk.1) (fun k hk => (hbC.block k hk).1)).keep hfX (fun _ _ h => h)
            obtain ⟨cao, ccap, rfl⟩ := hbC.shape
            have HCX := Lib.hid (And.intro (HBB.out.1.then (hfC.then hfX)) (And.intro hvwC (And.intro hwX hblkC)))
            clear hfC hbC hlit hfX hszX hnowC hsz6 hsz7 hnowD hblkC hap hvwC hwX
            go_wp2_with (at_builtin; go_must (refine wpList_app_g rfl _ _ _ _ rfl _ _ rfl rfl _ HAPX.out ?_))
            intro vX wY hRX
            rw [← HCX.out.2.2.1] at hRX
            have hfXY : Fp (fun k => (Value.slice nao l.rs.length ncap).ownBlock = some k) wX wY := hRX.fp (Fp.refl _ wX) (fun k hk => .inl hk)
            have hfY : Fp Non w wY := HCX.out.1.trans hfXY (fun k hk => .inr (Nat.le_trans H6.out.1.size (HCX.out.2.2.2 k hk).1))
            have huY := HCX.out.2.1.keep hfXY (fun k hE hS => by have h1 := (HCX.out.2.2.2 k hS).2; omega)
            have hsame := Same_c _ _ _ _ wY huY (hRX.bo.view (E := fun _ => True) (fun _ _ => trivial) (fun _ _ => trivial)) (by have := H6.out.2.2.1; show List.length (l.rs ++ [[109, 111, 114, 101]]) ≤ _; rw [List.length_append]; show List.length l.rs + 1 ≤ _; omega)
            obtain ⟨yao, ycap, rfl⟩ := hRX.bo.shape
            simp only [List.cons_append, List.nil_append, eq_self, decide_true, List.length_append, List.length_cons, List.length_nil, Nat.zero_add] at hsame
            have HSY := Lib.hid hsame
            have HFY := Lib.hid hfY
            clear hRX hfXY hfY huY hsame
            go_wp2_with fail
            refine HSY.out.mono ?_
            rintro e wZ ⟨rfl, hfZ⟩
            have HFZ := Lib.hid hfZ
            clear hfZ
            go_wp2
            all_goals go_ret
            all_goals exact ⟨rfl, HFY.out.then HFZ.out⟩
        · rw [show decide (l.rs = [bl]) = false from decide_eq_false hq]
          clear hq
          have hsw := Same_c _ _ _ _ w9 H9b.out.2.2.2.2.1 H9b.out.2.2.2.2.2 (by have := H6.out.2.2.1; omega)
          rw [show decide (l.rs = l.rs) = true from decide_eq_true rfl] at hsw
          have HSW := Lib.hid hsw
          clear hsw
          go_wp2_with fail
          refine HSW.out.mono ?_
          rintro e w10 ⟨rfl, hf10⟩
          have H10 := Lib.hid (And.intro (H9b.out.1.then hf10) (And.intro (H9b.out.2.1.non hf10) (And.intro (H9b.out.2.2.1.keep hf10 (fun _ _ h => h) (fun _ _ h => h)) (Nat.le_trans H9b.out.2.2.2.1 hf10.size))))
          clear hf10
          have hmore := const_sl w10 [109, 111, 114, 101] (by show 4 ≤ 1000; omega) (4, 5)
          have hfm : Fp Non w10 (w10.alloc (.cells (Lib.byteCells [109, 111, 114, 101]).toArray 5 (4, 5))) := (Fp.refl Non w10).alloc _
          have hlm := H10.out.2.1.non hfm
          have happ := hlm.append _ [109, 111, 114, 101] (Src.of_sl hmore (fun k hk ho => by have h1 := (H10.out.2.1.d.all k ho).2; simp [Value.ownBlock] at hk; omega)) (by have := H6.out.2.2.2.2.1; omega) (by show 4 ≤ 16384; omega)
          have kc := fun (w : World) (C : Array Value) (n c : Nat) => Lib.run_convert_bytes_const (P := Try.prog) w 24 5 C n c Try.underlying24 Try.underlying5
          have HAPM := Lib.hid happ
          have HM := Lib.hid (And.intro (H10.out.1.then hfm) (And.intro hlm (And.intro (H10.out.2.2.1.keep hfm (fun _ _ h => h) (fun _ _ h => h)) (Nat.le_trans H10.out.2.2.2 hfm.size))))
          clear hmore hfm hlm happ
          go_wp2_with fail
          refine HAPM.out.mono ?_
          rintro e wA (⟨_, rfl, hS⟩ | ⟨_, rfl, hS⟩)
          · obtain ⟨s7, v7, hl7, hac7, _, _⟩ := hS.ex
            have hfA : Fp Non w wA := HM.out.1.trans hS.fp (fun k hk => .inr (Nat.le_trans HLO.out (H6.out.2.2.2.2.2 k hk).1))
            have hbA := HM.out.2.2.1.keep hS.fp (fun k hk ho => by have h1 := (HM.out.2.2.1.block k hk).1; have h2 := (H6.out.2.2.2.2.2 k ho).2; omega) (fun k hk ho => by have h1 := hk.1; have h2 := (H6.out.2.2.2.2.2 k ho).2; omega)
            have hos := open_s hl7.d hl7.gd.dry hl7.gd.has (by have := H6.out.2.2.2.2.1; omega)
            have HOSA := Lib.hid hos
            have HA := Lib.hid (And.intro hl7 (And.intro hfA hbA))
            clear hS hl7 hac7 hfA hbA hos
            go_wp2_with fail
            refine HOSA.out.mono ?_
            rintro e wB ⟨⟨q8, s8, v8, rfl, hl8, hq8, _, _, hs8⟩, hfB⟩
            obtain rfl := (hs8 HA.out.1.gd).symm
            have hrc := Records_c hl8.lg (by have h1 := hl8.gd.has.fits.1; have h2 := (hl8.gd.lk.few hl8.gd.dry.rt).2; omega)
            have HRCB := Lib.hid hrc
            have hbB := HA.out.2.2.keep hfB (fun k hk ho => by have h1 := (HM.out.2.2.1.block k hk).1; have h2 := (H6.out.2.2.2.2.2 k (.inl ho)).2; omega) (fun k hk ho => by have h1 := hk.1; have h2 := (H6.out.2.2.2.2.2 k (.inl ho)).2; omega)
            have HBB := Lib.hid (And.intro (HA.out.2.1.trans hfB (fun k hk => .inr (Nat.le_trans HLO.out (H6.out.2.2.2.2.2 k (.inl hk)).1))) hbB)
            clear hrc hl8 hq8 hfB hs8 hbB
            go_wp2_with fail
            refine HRCB.out.mono ?_
            rintro e wC ⟨uC, rfl, hfC, hbC⟩
            have hsame := Same_c _ _ _ _ wC (hbC.view (E := fun _ => True) (fun _ _ => trivial) (fun _ _ => trivial)) ((HBB.out.2.keep hfC (fun _ _ h => h) (fun _ _ h => h)).view (E := fun _ => True) (fun _ _ => trivial) (fun _ _ => trivial)) (by have := H6.out.2.2.1; show List.length l.rs ≤ _; omega)
            rw [show decide (l.rs = l.rs) = true from decide_eq_true rfl] at hsame
            obtain ⟨cao, ccap, rfl⟩ := hbC.shape
            try simp only [List.length_append, List.length_cons, List.length_nil, Nat.zero_add] at hsame
            have HSC := Lib.hid hsame
            have HFC := Lib.hid (HBB.out.1.then hfC)
            clear hfC hbC hsame
            go_wp2_with fail
            refine HSC.out.mono ?_
            rintro e wD ⟨rfl, hfD⟩
            have HFD := Lib.hid hfD
            clear hfD
            go_wp2
            all_goals go_ret
            all_goals exact ⟨rfl, HFC.out.then HFD.out⟩
          · obtain ⟨s7, v7, hl7, hac7, _, _⟩ := hS.ex
            have hfA : Fp Non w wA := HM.out.1.trans hS.fp (fun k hk => .inr (Nat.le_trans HLO.out (H6.out.2.2.2.2.2 k hk).1))
            have hbA := HM.out.2.2.1.keep hS.fp (fun k hk ho => by have h1 := (HM.out.2.2.1.block k hk).1; have h2 := (H6.out.2.2.2.2.2 k ho).2; omega) (fun k hk ho => by have h1 := hk.1; have h2 := (H6.out.2.2.2.2.2 k ho).2; omega)
            have hos := open_s hl7.d hl7.gd.dry hl7.gd.has (by have := H6.out.2.2.2.2.1; omega)
            have HOSA := Lib.hid hos
            have h6A : w7.heap.size ≤ wA.heap.size := Nat.le_trans HM.out.2.2.2 hS.fp.size
            have HA := Lib.hid (And.intro hl7 (And.intro hfA (And.intro hbA h6A)))
            clear hS hl7 hac7 hfA hbA hos h6A
            go_wp2_with fail
            refine HOSA.out.mono ?_
            rintro e wB ⟨⟨q8, s8, v8, rfl, hl8, hq8, _, _, hs8⟩, hfB⟩
            obtain rfl := (hs8 HA.out.1.gd).symm
            have hrc := Records_c hl8.lg (by have h1 := hl8.gd.has.fits.1; have h2 := (hl8.gd.lk.few hl8.gd.dry.rt).2; omega)
            have HRCB := Lib.hid hrc
            have hbB := HA.out.2.2.1.keep hfB (fun k hk ho => by have h1 := (HM.out.2.2.1.block k hk).1; have h2 := (H6.out.2.2.2.2.2 k (.inl ho)).2; omega) (fun k hk ho => by have h1 := hk.1; have h2 := (H6.out.2.2.2.2.2 k (.inl ho)).2; omega)
            have HBB := Lib.hid (And.intro (HA.out.2.1.trans hfB (fun k hk => .inr (Nat.le_trans HLO.out (H6.out.2.2.2.2.2 k (.inl hk)).1))) (And.intro hbB (Nat.le_trans HA.out.2.2.2 hfB.size)))
            clear hrc hl8 hq8 hfB hs8 hbB
            go_wp2_with fail
            refine HRCB.out.mono ?_
            rintro e wC ⟨uC, rfl, hfC, hbC⟩
            have hlit := const_sl wC [109, 111, 114, 101] (by show 4 ≤ 1000; omega) (4, 5)
            obtain ⟨wX, hwX⟩ : ∃ wX, wX = wC.alloc (.cells (Lib.byteCells [109, 111, 114, 101]).toArray 5 (4, 5)) := ⟨_, rfl⟩
            have hfX : Fp Non wC wX := by rw [hwX]; exact (Fp.refl Non wC).alloc _
            have hszX : wX.heap.size = wC.heap.size + 1 := by rw [hwX]; simp
            rw [← hwX] at hlit
            have hnowC := ((HBB.out.2.1.keep hfC (fun _ _ h => h) (fun _ _ h => h)).keep hfX (fun _ _ h => h) (fun _ _ h => h))
            have hsz6 : w6.heap.size ≤ wC.heap.size := Nat.le_trans HS7.out (Nat.le_trans HBB.out.2.2 hfC.size)
            have hsz7 : ∀ k, w6.heap.size ≤ k ∧ k < w7.heap.size → k < wX.heap.size := fun k hk => by have h3 := hfC.size; have h4 := HBB.out.2.2; omega
            have hnowD := hnowC.wide (E := fun k => w6.heap.size ≤ k ∧ k < wX.heap.size) (fun k hk => ⟨hk.1, hsz7 k hk⟩)
            have hblkC := HBB.out.2.1.block
            have hap := app_bs wX w6.heap.size _ _ _ _ _ 23 hnowD hlit.se (fun _ k hk => ⟨by simp [Value.ownBlock] at hk; omega, fun e => by have h1 := (hblkC k e).2; have h2 := hfC.size; simp [Value.ownBlock] at hk; omega⟩) (by have := H6.out.2.2.1; show List.length l.rs ≤ _; omega) (by omega) (fun k hk => hk.2)
            rw [hszX] at hap
            rw [hwX] at hap
            try simp only [List.length_append, List.length_cons, List.length_nil, Nat.zero_add] at hap
            have HAPX := Lib.hid hap
            have hvwC := (hbC.view (E := fun k => wB.heap.size ≤ k) (fun k hk => hk.1) (fun k hk => (hbC.block k hk).1)).keep hfX (fun _ _ h => h)
            obtain ⟨cao, ccap, rfl⟩ := hbC.shape
            have HCX := Lib.hid (And.intro (HBB.out.1.then (hfC.then hfX)) (And.intro hvwC (And.intro hwX hblkC)))
            clear hfC hbC hlit hfX hszX hnowC hsz6 hsz7 hnowD hblkC hap hvwC hwX
            go_wp2_with (at_builtin; go_must (refine wpList_app_g rfl _ _ _ _ rfl _ _ rfl rfl _ HAPX.out ?_))
            intro vX wY hRX
            rw [← HCX.out.2.2.1] at hRX
            have hfXY : Fp (fun k => (Value.slice nao l.rs.length ncap).ownBlock = some k) wX wY := hRX.fp (Fp.refl _ wX) (fun k hk => .inl hk)
            have hfY : Fp Non w wY := HCX.out.1.trans hfXY (fun k hk => .inr (Nat.le_trans H6.out.1.size (HCX.out.2.2.2 k hk).1))
            have huY := HCX.out.2.1.keep hfXY (fun k hE hS => by have h1 := (HCX.out.2.2.2 k hS).2; omega)
            have hsame := Same_c _ _ _ _ wY huY (hRX.bo.view (E := fun _ => True) (fun _ _ => trivial) (fun _ _ => trivial)) (by have := H6.out.2.2.1; show List.length (l.rs ++ [[109, 111, 114, 101]]) ≤ _; rw [List.length_append]; show List.length l.rs + 1 ≤ _; omega)
            obtain ⟨yao, ycap, rfl⟩ := hRX.bo.shape
            simp only [List.cons_append, List.nil_append, eq_self, decide_true, List.length_append, List.length_cons, List.length_nil, Nat.zero_add] at hsame
            have HSY := Lib.hid hsame
            have HFY := Lib.hid hfY
            clear hRX hfXY hfY huY hsame
            go_wp2_with fail
            refine HSY.out.mono ?_
            rintro e wZ ⟨rfl, hfZ⟩
            have HFZ := Lib.hid hfZ
            clear hfZ
            go_wp2
            all_goals go_ret
            all_goals exact ⟨rfl, HFY.out.then HFZ.out⟩
      · subst h0 hL
        rw [show decide ([bl] = [bl]) = true from decide_eq_true rfl]
        have hmore := const_sl w9 [109, 111, 114, 101] (by show 4 ≤ 1000; omega) (4, 5)
        have hfm : Fp Non w9 (w9.alloc (.cells (Lib.byteCells [109, 111, 114, 101]).toArray 5 (4, 5))) := (Fp.refl Non w9).alloc _
        have hlm := H9b.out.2.1.non hfm
        have happ := hlm.append _ [109, 111, 114, 101] (Src.of_sl hmore (fun k hk ho => by have h1 := (H9b.out.2.1.d.all k ho).2; simp [Value.ownBlock] at hk; omega)) (by have := H6.out.2.2.2.2.1; omega) (by show 4 ≤ 16384; omega)
        have kc := fun (w : World) (C : Array Value) (n c : Nat) => Lib.run_convert_bytes_const (P := Try.prog) w 24 5 C n c Try.underlying24 Try.underlying5
        have HAPM := Lib.hid happ
        have HM := Lib.hid (And.intro (H9b.out.1.then hfm) (And.intro hlm (And.intro (H9b.out.2.2.1.keep hfm (fun _ _ h => h) (fun _ _ h => h)) (Nat.le_trans H9b.out.2.2.2.1 hfm.size))))
        clear hmore hfm hlm happ
        go_wp2_with fail
        refine HAPM.out.mono ?_
        rintro e wA (⟨_, rfl, hS⟩ | ⟨_, rfl, hS⟩)
        · obtain ⟨s7, v7, hl7, hac7, _, _⟩ := hS.ex
          have hfA : Fp Non w wA := HM.out.1.trans hS.fp (fun k hk => .inr (Nat.le_trans HLO.out (H6.out.2.2.2.2.2 k hk).1))
          have hbA := HM.out.2.2.1.keep hS.fp (fun k hk ho => by have h1 := (HM.out.2.2.1.block k hk).1; have h2 := (H6.out.2.2.2.2.2 k ho).2; omega) (fun k hk ho => by have h1 := hk.1; have h2 := (H6.out.2.2.2.2.2 k ho).2; omega)
          have hos := open_s hl7.d hl7.gd.dry hl7.gd.has (by have := H6.out.2.2.2.2.1; omega)
          have HOSA := Lib.hid hos
          have HA := Lib.hid (And.intro hl7 (And.intro hfA hbA))
          clear hS hl7 hac7 hfA hbA hos
          go_wp2_with fail
          refine HOSA.out.mono ?_
          rintro e wB ⟨⟨q8, s8, v8, rfl, hl8, hq8, _, _, hs8⟩, hfB⟩
          obtain rfl := (hs8 HA.out.1.gd).symm
          have hrc := Records_c hl8.lg (by have h1 := hl8.gd.has.fits.1; have h2 := (hl8.gd.lk.few hl8.gd.dry.rt).2; omega)
          have HRCB := Lib.hid hrc
          have hbB := HA.out.2.2.keep hfB (fun k hk ho => by have h1 := (HM.out.2.2.1.block k hk).1; have h2 := (H6.out.2.2.2.2.2 k (.inl ho)).2; omega) (fun k hk ho => by have h1 := hk.1; have h2 := (H6.out.2.2.2.2.2 k (.inl ho)).2; omega)
          have HBB := Lib.hid (And.intro (HA.out.2.1.trans hfB (fun k hk => .inr (Nat.le_trans HLO.out (H6.out.2.2.2.2.2 k (.inl hk)).1))) hbB)
          clear hrc hl8 hq8 hfB hs8 hbB
          go_wp2_with fail
          refine HRCB.out.mono ?_
          rintro e wC ⟨uC, rfl, hfC, hbC⟩
          have hsame := Same_c _ _ _ _ wC (hbC.view (E := fun _ => True) (fun _ _ => trivial) (fun _ _ => trivial)) ((HBB.out.2.keep hfC (fun _ _ h => h) (fun _ _ h => h)).view (E := fun _ => True) (fun _ _ => trivial) (fun _ _ => trivial)) (by have := H6.out.2.2.1; show List.length [bl] ≤ _; omega)
          rw [show decide ([bl] = [bl]) = true from decide_eq_true rfl] at hsame
          obtain ⟨cao, ccap, rfl⟩ := hbC.shape
          try simp only [List.length_append, List.length_cons, List.length_nil, Nat.zero_add] at hsame
          have HSC := Lib.hid hsame
          have HFC := Lib.hid (HBB.out.1.then hfC)
          clear hfC hbC hsame
          go_wp2_with fail
          refine HSC.out.mono ?_
          rintro e wD ⟨rfl, hfD⟩
          have HFD := Lib.hid hfD
          clear hfD
          go_wp2
          all_goals go_ret
          all_goals exact ⟨rfl, HFC.out.then HFD.out⟩
        · obtain ⟨s7, v7, hl7, hac7, _, _⟩ := hS.ex
          have hfA : Fp Non w wA := HM.out.1.trans hS.fp (fun k hk => .inr (Nat.le_trans HLO.out (H6.out.2.2.2.2.2 k hk).1))
          have hbA := HM.out.2.2.1.keep hS.fp (fun k hk ho => by have h1 := (HM.out.2.2.1.block k hk).1; have h2 := (H6.out.2.2.2.2.2 k ho).2; omega) (fun k hk ho => by have h1 := hk.1; have h2 := (H6.out.2.2.2.2.2 k ho).2; omega)
          have hos := open_s hl7.d hl7.gd.dry hl7.gd.has (by have := H6.out.2.2.2.2.1; omega)
          have HOSA := Lib.hid hos
          have h6A : w7.heap.size ≤ wA.heap.size := Nat.le_trans HM.out.2.2.2 hS.fp.size
          have HA := Lib.hid (And.intro hl7 (And.intro hfA (And.intro hbA h6A)))
          clear hS hl7 hac7 hfA hbA hos h6A
          go_wp2_with fail
          refine HOSA.out.mono ?_
          rintro e wB ⟨⟨q8, s8, v8, rfl, hl8, hq8, _, _, hs8⟩, hfB⟩
          obtain rfl := (hs8 HA.out.1.gd).symm
          have hrc := Records_c hl8.lg (by have h1 := hl8.gd.has.fits.1; have h2 := (hl8.gd.lk.few hl8.gd.dry.rt).2; omega)
          have HRCB := Lib.hid hrc
          have hbB := HA.out.2.2.1.keep hfB (fun k hk ho => by have h1 := (HM.out.2.2.1.block k hk).1; have h2 := (H6.out.2.2.2.2.2 k (.inl ho)).2; omega) (fun k hk ho => by have h1 := hk.1; have h2 := (H6.out.2.2.2.2.2 k (.inl ho)).2; omega)
          have HBB := Lib.hid (And.intro (HA.out.2.1.trans hfB (fun k hk => .inr (Nat.le_trans HLO.out (H6.out.2.2.2.2.2 k (.inl hk)).1))) (And.intro hbB (Nat.le_trans HA.out.2.2.2 hfB.size)))
          clear hrc hl8 hq8 hfB hs8 hbB
          go_wp2_with fail
          refine HRCB.out.mono ?_
          rintro e wC ⟨uC, rfl, hfC, hbC⟩
          have hlit := const_sl wC [109, 111, 114, 101] (by show 4 ≤ 1000; omega) (4, 5)
          obtain ⟨wX, hwX⟩ : ∃ wX, wX = wC.alloc (.cells (Lib.byteCells [109, 111, 114, 101]).toArray 5 (4, 5)) := ⟨_, rfl⟩
          have hfX : Fp Non wC wX := by rw [hwX]; exact (Fp.refl Non wC).alloc _
          have hszX : wX.heap.size = wC.heap.size + 1 := by rw [hwX]; simp
          rw [← hwX] at hlit
          have hnowC := ((HBB.out.2.1.keep hfC (fun _ _ h => h) (fun _ _ h => h)).keep hfX (fun _ _ h => h) (fun _ _ h => h))
          have hsz6 : w6.heap.size ≤ wC.heap.size := Nat.le_trans HS7.out (Nat.le_trans HBB.out.2.2 hfC.size)
          have hsz7 : ∀ k, w6.heap.size ≤ k ∧ k < w7.heap.size → k < wX.heap.size := fun k hk => by have h3 := hfC.size; have h4 := HBB.out.2.2; omega
          have hnowD := hnowC.wide (E := fun k => w6.heap.size ≤ k ∧ k < wX.heap.size) (fun k hk => ⟨hk.1, hsz7 k hk⟩)
          have hblkC := HBB.out.2.1.block
          have hap := app_bs wX w6.heap.size _ _ _ _ _ 23 hnowD hlit.se (fun _ k hk => ⟨by simp [Value.ownBlock] at hk; omega, fun e => by have h1 := (hblkC k e).2; have h2 := hfC.size; simp [Value.ownBlock] at hk; omega⟩) (by have := H6.out.2.2.1; show List.length [bl] ≤ _; omega) (by omega) (fun k hk => hk.2)
          rw [hszX] at hap
          rw [hwX] at hap
          try simp only [List.length_append, List.length_cons, List.length_nil, Nat.zero_add] at hap
          have HAPX := Lib.hid hap
          have hvwC := (hbC.view (E := fun k => wB.heap.size ≤ k) (fun k hk => hk.1) (fun k hk => (hbC.block k hk).1)).keep hfX (fun _ _ h => h)
          obtain ⟨cao, ccap, rfl⟩ := hbC.shape
          have HCX := Lib.hid (And.intro (HBB.out.1.then (hfC.then hfX)) (And.intro hvwC (And.intro hwX hblkC)))
          clear hfC hbC hlit hfX hszX hnowC hsz6 hsz7 hnowD hblkC hap hvwC hwX
          go_wp2_with (at_builtin; go_must (refine wpList_app_g rfl _ _ _ _ rfl _ _ rfl rfl _ HAPX.out ?_))
          intro vX wY hRX
          rw [← HCX.out.2.2.1] at hRX
          have hfXY : Fp (fun k => (Value.slice nao [bl].length ncap).ownBlock = some k) wX wY := hRX.fp (Fp.refl _ wX) (fun k hk => .inl hk)
          have hfY : Fp Non w wY := HCX.out.1.trans hfXY (fun k hk => .inr (Nat.le_trans H6.out.1.size (HCX.out.2.2.2 k hk).1))
          have huY := HCX.out.2.1.keep hfXY (fun k hE hS => by have h1 := (HCX.out.2.2.2 k hS).2; omega)
          have hsame := Same_c _ _ _ _ wY huY (hRX.bo.view (E := fun _ => True) (fun _ _ => trivial) (fun _ _ => trivial)) (by have := H6.out.2.2.1; show List.length ([bl] ++ [[109, 111, 114, 101]]) ≤ _; rw [List.length_append]; show List.length [bl] + 1 ≤ _; omega)
          obtain ⟨yao, ycap, rfl⟩ := hRX.bo.shape
          simp only [List.cons_append, List.nil_append, eq_self, decide_true, List.length_append, List.length_cons, List.length_nil, Nat.zero_add] at hsame
          have HSY := Lib.hid hsame
          have HFY := Lib.hid hfY
          clear hRX hfXY hfY huY hsame
          go_wp2_with fail
          refine HSY.out.mono ?_
          rintro e wZ ⟨rfl, hfZ⟩
          have HFZ := Lib.hid hfZ
          clear hfZ
          go_wp2
          all_goals go_ret
          all_goals exact ⟨rfl, HFY.out.then HFZ.out⟩
end Go.Proofs.Ytekhpmeadebdkaa
