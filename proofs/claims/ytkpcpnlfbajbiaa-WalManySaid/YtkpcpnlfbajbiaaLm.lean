/- WalMany: the law's walk. -/
import Derived.Test.YtkpcpnlfbajbiaaWh
import Derived.Test.YtkpcpnlfbajbiaaGr
namespace Go.Proofs.Ytkpcpnlfbajbiaa
set_option maxRecDepth 20000
open Go.RowKit Pm

/-- A slice of one slice. -/
theorem Bo.one (w : World) (lo : Nat) (D : Nat → Prop) (bv : Value) (bs : Bs) (hs : Se w bv bs) (hD : 0 < bs.length → ∀ k, bv.ownBlock = some k → D k) (hlt : ∀ k, D k → k < w.heap.size) (hlo : lo ≤ w.heap.size) :
    Bo lo D (w.alloc (.cells #[bv] 31)) (.slice (some ⟨w.heap.size, 0, none⟩) 1 1) [bs] := by
  refine ⟨[bv], World.ownsRow_lit w #[bv] 1 hlo (by unfold maxLen; omega) rfl, rfl, fun k hk => ?_⟩
  have hk0 : k = 0 := by simp at hk; omega
  subst hk0
  refine ⟨bv, rfl, hs.keep ((Fp.refl Non w).alloc _) (fun _ _ _ h => h), fun h0 j hj => ⟨hD h0 j hj, fun e => ?_⟩⟩
  have h1 := hlt j (hD h0 j hj)
  simp [Value.ownBlock] at e
  omega

/-- Ahead of round j. -/
structure MnM (w : World) (lo b g m q j : Nat) (wv : Value) (wr : World) (a u : Nat) : Prop where
  ex : ∃ s l v, Lw lo b g m q s l v wr ∧ s.acts ≤ 10 * j + a ∧ s.cur.length = 65536 ∧ usd l.rs ≤ 416 * (j + u) ∧ Bo lo (fun k => k < w.heap.size) wr wv l.rs ∧ ∀ k, wv.ownBlock = some k → ¬ own3 b g m k ∧ ¬ ownL q v k
  fp : Fp Non w wr

theorem hf_many {c : Bs} (h : c.length = 65536) : Pm.hf c = 32752 := by unfold Pm.hf; rw [h]
theorem ln_many {n : Nat} (h : n ≤ 400) : ln n ≤ 416 := by unfold ln up; omega

theorem mstart_c (w : World) :
    Calls Try.prog 5 #[.int .i64 4096] w fun e w' => ∃ b g m q v s, e = .returned (.tuple #[.pointer (some ⟨b, 0, none⟩), .pointer (some ⟨q, 0, none⟩), .bool true]) ∧ Lw w.heap.size b g m q s ⟨0, []⟩ v w' ∧ s.acts = 0 ∧ s.cur.length = 65536 ∧ Fp Non w w' := by
  obtain ⟨n, hn⟩ : ∃ n : Nat, n = 4096 := ⟨_, rfl⟩
  have h := lstart_c n (by omega) (by omega) w
  have e : ((n : Nat) : Int) = 4096 := by omega
  rw [e] at h
  refine h.mono ?_
  rintro e' w' ⟨b, g, m, q, v, h1, h2, h3⟩
  exact ⟨b, g, m, q, v, _, h1, h2, rfl, by show (zr (n * 16)).length = 65536; rw [zr_len]; omega, h3⟩

/-- Behind a crash of a disk on which nothing is loose: all is as it was. -/
theorem crash_gd {s : Dk} {l : Lg} (h : Gd s l) (keep : List Bool) : Has (dCrash s keep).cur l.ar l.rs := by
  have hm := crash_mx s h.dry.rt keep
  rw [h.dry.dry] at hm
  rw [hm.same]; exact h.has

theorem own_low {lo b g m q : Nat} {s : Dk} {l : Lg} {v : Value} {w : World} (h : Lw lo b g m q s l v w) : ∀ k, own3 b g m k ∨ ownL q v k → lo ≤ k ∧ k < w.heap.size := fun k hk => hk.elim (fun h2 => h.d.all k h2) (fun h2 => h.lg.all k h2)

/-- Behind a call of the log, what was wanted ahead. -/
theorem MnM.called {w wr w3 : World} {lo b g m q : Nat} {s : Dk} {l l' : Lg} {v : Value} {wv : Value} {ls : List Bs} {n : Nat} (hww : w.heap.size ≤ lo) (hl : Lw lo b g m q s l v wr) (hf : Fp Non w wr) (hb : Bo lo (fun k => k < w.heap.size) wr wv ls)
    (hn : ∀ k, wv.ownBlock = some k → ¬ own3 b g m k ∧ ¬ ownL q v k) (hS : LgS lo b g m q s l v wr l' n w3) :
    Fp Non w w3 ∧ Bo lo (fun k => k < w.heap.size) w3 wv ls ∧ ∃ s6 v6, Lw lo b g m q s6 l' v6 w3 ∧ s6.acts ≤ s.acts + n ∧ s6.cur.length = s.cur.length ∧ (∀ k, wv.ownBlock = some k → ¬ own3 b g m k ∧ ¬ ownL q v6 k) := by
  obtain ⟨s6, v6, hl6, hac6, hc6, hat⟩ := hS.ex
  have hlow := own_low hl
  refine ⟨hf.trans hS.fp (fun k hk => .inr (Nat.le_trans hww (hlow k hk).1)), hb.keep hS.fp (fun k hk ho => ?_) (fun k hk ho => ?_), s6, v6, hl6, hac6, hc6, fun k hk => ⟨(hn k hk).1, fun ho => ?_⟩⟩
  · rcases ho with ho | ho
    · exact (hn k hk).1 ho
    · exact (hn k hk).2 ho
  · have := (hlow k ho).1; omega
  · have h1 := (hb.block k hk).2
    rcases ho with ho | ho
    · exact (hn k hk).2 (.inl ho)
    · rcases hat with e | e
      · rw [e] at ho; exact (hn k hk).2 (.inr ho)
      · have := e k ho; omega

set_option maxHeartbeats 16000000 in
theorem WalMany_c (v : Value) (ls : List Oq) (kv : Value) (keep : List Bool) (w : World) (hv : Oqs w w.heap.size v ls) (hk : Sb w kv keep ∧ (0 < keep.length → ∀ k, kv.ownBlock = some k → k < w.heap.size)) :
    Calls Try.prog 3 #[v, kv] w fun e w' => e = .returned (.bool true) ∧ Fp Non w w' := by
  have hgc := fun w' (f : Fp Non w w') => Great_c w.heap.size v ls w' (hv.keep_ f (fun _ h => h.elim))
  obtain ⟨vao, vcap, rfl, hlc, hcm, hc⟩ := hv.ex
  obtain ⟨N, hN⟩ : ∃ N, N = ls.length := ⟨_, rfl⟩
  have HG := Lib.hid hgc
  have HV := Lib.hid (And.intro hN (And.intro hlc hcm))
  have HC := Lib.hid hc
  have HK := Lib.hid hk
  rw [← hN] at HG ⊢
  by_cases h60 : 60 < N
  · have q1 : ((60 : Int) < (N : Int)) = True := eq_true (by omega)
    clear hgc hv hlc hcm hc hk hN h60
    go_enter Try.func3, Try.ntmps3
    go_wp2_with fail
    refine (head_c w).mono ?_
    rintro e w1 ⟨rfl, hf1⟩
    have HF1 := Lib.hid hf1
    have HLO := Lib.hid hf1.size
    clear hf1
    go_wp2_with fail
    refine (mstart_c w1).mono ?_
    rintro e w2 ⟨b, g, m, q, v0, s0, rfl, hl2, ha2, hc2, hf2⟩
    have H1 := Lib.hid (And.intro hl2 (And.intro ha2 (And.intro hc2 (HF1.out.then hf2))))
    clear hl2 ha2 hc2 hf2
    go_wp2_with fail
    refine (HG.out w2 H1.out.2.2.2).mono ?_
    rintro e w3 ⟨gr, rfl, _, hf3⟩
    have H2 := Lib.hid (And.intro (H1.out.1.non hf3) (And.intro H1.out.2.1 (And.intro H1.out.2.2.1 (H1.out.2.2.2.then hf3))))
    clear hf3 H1
    cases gr
    all_goals
      go_wp2
      go_ret
      exact ⟨rfl, H2.out.2.2.2⟩
  have q1 : ((60 : Int) < (N : Int)) = False := eq_false (by omega)
  have hN6 : N ≤ 60 := by omega
  clear hgc hv hlc hcm hc hk hN h60
  go_enter Try.func3, Try.ntmps3
  go_wp2_with fail
  refine (head_c w).mono ?_
  rintro e w1 ⟨rfl, hf1⟩
  have HF1 := Lib.hid hf1
  have HLO := Lib.hid hf1.size
  clear hf1
  go_wp2_with fail
  refine (mstart_c w1).mono ?_
  rintro e w2 ⟨b, g, m, q, v0, s0, rfl, hl2, ha2, hc2, hf2⟩
  have H1 := Lib.hid (And.intro hl2 (And.intro ha2 (And.intro hc2 (HF1.out.then hf2))))
  clear hl2 ha2 hc2 hf2
  go_wp2_with fail
  refine (HG.out w2 H1.out.2.2.2).mono ?_
  rintro e w3 ⟨gr, rfl, _, hf3⟩
  have H2 := Lib.hid (And.intro (H1.out.1.non hf3) (And.intro H1.out.2.1 (And.intro H1.out.2.2.1 (H1.out.2.2.2.then hf3))))
  clear hf3 H1
  cases gr with
  | true =>
    go_wp2
    go_ret
    exact ⟨rfl, H2.out.2.2.2⟩
  | false =>
    go_wp2_with fail
    have H0 : Hid (MnM w w1.heap.size b g m q 0 (.slice none 0 0) w3 0 0) := ⟨⟨_, _, v0, H2.out.1, by have := H2.out.2.1; omega, H2.out.2.2.1, Nat.zero_le _, Bo.nil _ _ _, fun k hk => by cases hk⟩, H2.out.2.2.2⟩
    clear H2
    go_loopw [7, 9, 10] (fun wp wv i wr => ∃ j q : Nat, j ≤ N ∧ wp = .pointer (some ⟨q, 0, none⟩) ∧ i = .int .i64 j ∧ Hid (MnM w w1.heap.size b g m q j wv wr 0 0)) (fun _ _ i _ => N - (RowKit.intOf i).toNat)
    case atStart => exact ⟨0, q, Nat.zero_le _, rfl, rfl, H0⟩
    case round =>
      clear H0
      obtain ⟨j, q, hj, rfl, rfl, hR⟩ := hrel
      rename_i wr _
      by_cases hlt : j < N
      · have hjl : j < ls.length := by rw [← HV.out.1]; exact hlt
        rcases HC.out with h0 | ⟨ga, oa, rfl, hga, hcell⟩
        · exfalso; have := HV.out.1; have := HV.out.2.1; omega
        have hq := hcell j hjl
        generalize ls[j] = x at hq
        have c0 : wr.cell? ⟨ga, oa + j * 4, none⟩ = some (.int .i64 x.what) := hR.out.fp.cell hq.c0 (fun h => h)
        have c1 := hR.out.fp.cell hq.c1 (fun h => h)
        obtain ⟨bao, bcap, eb, _, _, _⟩ := hq.sb.ex
        obtain ⟨L, hL⟩ : ∃ L, L = x.b.length := ⟨_, rfl⟩
        rw [eb, ← hL] at c1
        have z0 : ((j : Int) < (N : Int)) = True := eq_true (by omega)
        have z00 : (j < N) = True := eq_true hlt
        by_cases hbig : 400 < L
        · have z1 : ((400 : Int) < (L : Int)) = True := eq_true (by omega)
          clear hq hcell hga hjl hL hbig eb
          go_wp2
          go_ret
          exact ⟨rfl, hR.out.fp⟩
        · have z1 : ((400 : Int) < (L : Int)) = False := eq_false (by omega)
          have hL4 : L ≤ 400 := by omega
          have hse : Se wr x.bv x.b := (hq.sb.se).keep hR.out.fp (fun _ _ _ h => h)
          rw [eb, ← hL] at hse
          have hbD : 0 < L → ∀ k, (Value.slice bao L bcap).ownBlock = some k → k < w.heap.size := fun h0 k hk => hq.lb (by rw [← hL]; exact h0) k (by rw [eb, ← hL]; exact hk)
          obtain ⟨s, l, v3, hl, hac, hcu, hus, hwas, hapt⟩ := hR.out.ex
          have hsrc : Src b g m wr (.slice bao L bcap) x.b := Src.of_se hse (fun h0 k hk ho => by have h1 := hbD (by rw [hL]; exact h0) k hk; have h2 := (hl.d.all k ho).1; have h3 := HLO.out; omega)
          have happ := hl.append _ x.b hsrc (by omega) (by omega)
          have hsta := hl.start _ x.b hsrc (by omega) (by omega)
          have hh := hf_many hcu
          have hln := ln_many (n := x.b.length) (by omega)
          have C1 := Lib.hid (hR.out.fp.cell hq.c1 (fun h => h))
          have HQ := Lib.hid (And.intro hse (And.intro hbD (And.intro hL (And.intro hL4 (And.intro hlt hj)))))
          have HQC := Lib.hid (fun (w' : World) (f : Fp Non w w') => (show w'.cell? ⟨ga, oa + j * 4 + 1, none⟩ = some (.slice bao L bcap) by have := f.cell hq.c1 (fun h => h); rw [eb, ← hL] at this; exact this))
          have HL := Lib.hid (And.intro hl (And.intro hac (And.intro hcu (And.intro hus (And.intro hwas (And.intro hapt (And.intro hh hln)))))))
          have HAP := Lib.hid happ
          have HST := Lib.hid hsta
          obtain ⟨wao, wcap, rfl⟩ := hwas.shape
          have HNL := Lib.hid (show l.rs.length ≤ 100000 by have h1 := usd_ge l.rs; omega)
          generalize x.what = wh at *
          by_cases h3 : wh = 3
          · have z2 : (wh == 3) = true := beq_iff_eq.2 h3
            have z22 : (wh = 3) = True := eq_true h3
            clear hl hac hcu hus hwas hapt hse hbD hL hsrc happ hsta hh hln hq hcell hga hjl hbig eb h3 hj
            go_wp2_with fail
            refine HST.out.mono ?_
            rintro e w3 (⟨hful, rfl, _⟩ | ⟨_, rfl, hS⟩)
            · exfalso
              rw [HL.out.2.2.2.2.2.2.1] at hful
              have h1 := HL.out.2.2.2.2.2.2.2
              omega
            obtain ⟨hfw3, hb3, s6, v6, hl6, ha6, hc6, hp6⟩ := MnM.called HLO.out HL.out.1 hR.out.fp HL.out.2.2.2.2.1 HL.out.2.2.2.2.2.1 hS
            have cx := HQC.out w3 hfw3
            have hse3 := HQ.out.1.keep hS.fp (fun h0 k hk ho => by have h1 := HQ.out.2.1 (by rw [HQ.out.2.2.1]; exact h0) k hk; have h2 := (own_low HL.out.1 k ho).1; have h3 := HLO.out; omega)
            have hone := Bo.one w3 w1.heap.size (fun k => k < w.heap.size) _ _ hse3 (fun h0 k hk => HQ.out.2.1 (by rw [HQ.out.2.2.1]; exact h0) k hk) (fun k hk => Nat.lt_of_lt_of_le hk hfw3.size) (Nat.le_trans (Nat.le_trans (HL.out.1.d.all b (.inl rfl)).1 (Nat.le_of_lt (HL.out.1.d.all b (.inl rfl)).2)) hS.fp.size)
            have hM4 : Hid (MnM w w1.heap.size b g m q j (.slice (some ⟨w3.heap.size, 0, none⟩) 1 1) (w3.alloc (.cells #[.slice bao L bcap] 31)) 7 1) := by
              refine ⟨⟨s6, ⟨1 - l.ar, [x.b]⟩, v6, hl6.non ((Fp.refl Non w3).alloc _), by have h2 := HL.out.2.1; omega, by rw [hc6]; exact HL.out.2.2.1, by
                show usd [x.b] ≤ _
                have h2 := HL.out.2.2.2.2.2.2.2
                have h3 : usd [x.b] = ln x.b.length := by rw [usd_cons, usd_nil]; rfl
                omega, hone, fun k hk => ?_⟩, hfw3.then ((Fp.refl Non w3).alloc _)⟩
              simp [Value.ownBlock] at hk
              have hlow := own_low hl6
              exact ⟨fun ho => by have := (hlow k (.inl ho)).2; omega, fun ho => by have := (hlow k (.inr ho)).2; omega⟩
            clear hS hfw3 hb3 hl6 ha6 hc6 hp6 hse3 hone
            obtain ⟨s4, l4, v4, hl4, ha4, hc4, hu4, hb4, hp4⟩ := hM4.out.ex
            have hlow := own_low hl4
            have hcr := Crash_c hl4.d kv keep (HK.out.1.keep hM4.out.fp (fun _ _ _ h => h)) (fun h0 k hk ho => by have h1 := HK.out.2 h0 k hk; have h2 := (hlow k (.inl ho)).1; have h3 := HLO.out; omega)
            have HCR := Lib.hid hcr
            have H4 := Lib.hid (And.intro hl4 (And.intro ha4 (And.intro hc4 (And.intro hu4 (And.intro hb4 (And.intro hp4 hlow))))))
            clear hl4 ha4 hc4 hu4 hb4 hp4 hlow hcr
            go_wp2_with fail
            refine HCR.out.mono ?_
            rintro e w5 ⟨rfl, hd5, hf5⟩
            have hfw5 : Fp Non w w5 := hM4.out.fp.trans hf5 (fun k hk => .inr (Nat.le_trans HLO.out (H4.out.2.2.2.2.2.2 k (.inl hk)).1))
            have hb5 := H4.out.2.2.2.2.1.keep hf5 (fun k hk ho => (H4.out.2.2.2.2.2.1 k hk).1 ho) (fun k hk ho => by have h1 := (H4.out.2.2.2.2.2.2 k (.inl ho)).1; have h3 := HLO.out; omega)
            have hos := open_s hd5 (crash_dry _ H4.out.1.gd.dry.rt keep) (crash_gd H4.out.1.gd keep) (by rw [crash_acts]; have := H4.out.2.1; have := HQ.out.2.2.2.2.1; omega)
            have HOS := Lib.hid hos
            have hcl : (dCrash s4 keep).cur.length = 65536 := by
              have hm := crash_mx s4 H4.out.1.gd.dry.rt keep
              rw [H4.out.1.gd.dry.dry] at hm
              rw [hm.same]; exact H4.out.2.2.1
            have H5 := Lib.hid (And.intro hfw5 (And.intro hb5 (And.intro hcl (And.intro hf5.size hd5))))
            clear hd5 hf5 hfw5 hb5 hos hcl
            go_wp2_with fail
            refine HOS.out.mono ?_
            rintro e w6 ⟨⟨q6, s6, v6, rfl, hl6, hq6, ha6, hc6, _⟩, hf6⟩
            have hfw6 : Fp Non w w6 := H5.out.1.trans hf6 (fun k hk => .inr (Nat.le_trans HLO.out (H4.out.2.2.2.2.2.2 k (.inl hk)).1))
            have hb6 := H5.out.2.1.keep hf6 (fun k hk ho => (H4.out.2.2.2.2.2.1 k hk).1 ho) (fun k hk ho => by have h1 := (H4.out.2.2.2.2.2.2 k (.inl ho)).1; have h3 := HLO.out; omega)
            have hus6 : usd l4.rs ≤ 100000 := by have := H4.out.2.2.2.1; have := HQ.out.2.2.2.2.1; omega
            have hrc := Records_c hl6.lg (by show usd l4.rs ≤ _; omega)
            have HRC := Lib.hid hrc
            have hq6' : ∀ k, (Value.slice (some ⟨w3.heap.size, 0, none⟩) 1 1).ownBlock = some k → ¬ own3 b g m k ∧ ¬ ownL q6 v6 k := fun k hk => ⟨(H4.out.2.2.2.2.2.1 k hk).1, fun ho => by have h1 := (H4.out.2.2.2.2.1.block k hk).2; have h2 := hq6 k ho; have h3 := H5.out.2.2.2.1; omega⟩
            have H6 := Lib.hid (And.intro hl6 (And.intro ha6 (And.intro hc6 (And.intro hfw6 (And.intro hb6 (And.intro hus6 hq6'))))))
            clear hl6 hq6 ha6 hc6 hf6 hfw6 hb6 hus6 hrc hq6'
            go_wp2_with fail
            refine HRC.out.mono ?_
            rintro e w7 ⟨u7, rfl, hf7, hb7⟩
            have hnow : Bv (fun _ => True) w7 u7 l4.rs := hb7.view (fun _ _ => trivial) (fun _ _ => trivial)
            obtain ⟨nao, ncap, rfl⟩ := hb7.shape
            have hb67 := H6.out.2.2.2.2.1.keep hf7 (fun _ _ h => h) (fun _ _ h => h)
            have hsame := Same_c _ _ _ _ w7 hnow (hb67.view (E := fun _ => True) (fun _ _ => trivial) (fun _ _ => trivial)) (by have := usd_ge l4.rs; have := H6.out.2.2.2.2.2.1; omega)
            rw [show decide (l4.rs = l4.rs) = true from decide_eq_true rfl] at hsame
            have HSM := Lib.hid hsame
            have H7 := Lib.hid (And.intro hf7 hb67)
            clear hf7 hb7 hnow hb67 hsame
            go_wp2_with fail
            refine HSM.out.mono ?_
            rintro e w8 ⟨rfl, hf8⟩
            have hM : Hid (MnM w w1.heap.size b g m q6 (j + 1) (.slice (some ⟨w3.heap.size, 0, none⟩) 1 1) w8 0 0) :=
              ⟨⟨s6, ⟨l4.ar, l4.rs⟩, v6, (H6.out.1.non H7.out.1).non hf8, by have h1 := H6.out.2.1; rw [crash_acts] at h1; have h2 := H4.out.2.1; omega, by rw [H6.out.2.2.1]; exact H5.out.2.2.1, H4.out.2.2.2.1, H7.out.2.keep hf8 (fun _ _ h => h) (fun _ _ h => h), H6.out.2.2.2.2.2.2⟩, (H6.out.2.2.2.1.then H7.out.1).then hf8⟩
            have HFIN := Lib.hid HQ.out.2.2.2.2
            clear hf8 H4 H5 H6 H7 HSM HRC HOS HCR hM4 HQ HQC HL HAP HST
            go_wp2
            go_roundw
            case rel => exact ⟨j + 1, q6, HFIN.out.1, rfl, by go_num, hM⟩
            case measure => have := HFIN.out.1; simp [RowKit.intOf]; omega
          · have z2 : (wh == 3) = false := beq_eq_false_iff_ne.2 h3
            have z22 : (wh = 3) = False := eq_false h3
            clear hl hac hcu hus hwas hapt hse hbD hL hsrc happ hsta hh hln hq hcell hga hjl hbig eb h3 hj
            go_wp2_with fail
            refine HAP.out.mono ?_
            rintro e w3 (⟨hful, rfl, _⟩ | ⟨_, rfl, hS⟩)
            · exfalso
              rw [HL.out.2.2.2.2.2.2.1] at hful
              have h1 := HL.out.2.2.2.2.2.2.2; have h2 := HL.out.2.2.2.1; have h3 := HQ.out.2.2.2.2.1
              omega
            obtain ⟨hfw3, hb3, s6, v6, hl6, ha6, hc6, hp6⟩ := MnM.called HLO.out HL.out.1 hR.out.fp HL.out.2.2.2.2.1 HL.out.2.2.2.2.2.1 hS
            have cx := HQC.out w3 hfw3
            have hap := app_bs w3 w1.heap.size _ _ _ _ _ 30 hb3 (HQ.out.1.keep hS.fp (fun h0 k hk ho => by have h1 := HQ.out.2.1 (by rw [HQ.out.2.2.1]; exact h0) k hk; have h2 := (own_low HL.out.1 k ho).1; have h3 := HLO.out; omega)) (fun h0 k hk => ⟨HQ.out.2.1 (by rw [HQ.out.2.2.1]; exact h0) k hk, fun e => by have h1 := HQ.out.2.1 (by rw [HQ.out.2.2.1]; exact h0) k hk; have h2 := (hb3.block k e).1; have h3 := HLO.out; omega⟩) (by have := HNL.out; omega) (Nat.le_trans (Nat.le_of_lt (HL.out.1.d.all b (.inl rfl)).2 |> fun h => Nat.le_trans (HL.out.1.d.all b (.inl rfl)).1 h) hS.fp.size) (fun k hk => by have h2 := hfw3.size; omega)
            have HAP3 := Lib.hid hap
            have HB3 := Lib.hid (And.intro hfw3 (And.intro hb3 (And.intro hl6 (And.intro ha6 (And.intro hc6 hp6)))))
            clear hS hfw3 hb3 hl6 ha6 hc6 hp6 hap
            go_wp2_with (at_builtin; go_must (refine wpList_app rfl _ _ _ _ rfl _ _ rfl rfl _ HAP3.out ?_))
            intro u4 w4 hR4
            have hf34 : Fp (fun k => (Value.slice wao l.rs.length wcap).ownBlock = some k) w3 w4 := hR4.fp (Fp.refl _ w3) (fun k hk => .inl hk)
            have hM4 : Hid (MnM w w1.heap.size b g m q j u4 w4 7 1) := by
              have hall : ∀ k, own3 b g m k ∨ ownL q v6 k → k < w3.heap.size := fun k hk => (own_low HB3.out.2.2.1 k hk).2
              refine ⟨⟨s6, ⟨l.ar, l.rs ++ [x.b]⟩, v6, HB3.out.2.2.1.keep hf34 (fun k hk ho => (HB3.out.2.2.2.2.2 k ho).1 hk) (fun k hk ho => (HB3.out.2.2.2.2.2 k ho).2 hk), by have h1 := HB3.out.2.2.2.1; have h2 := HL.out.2.1; omega, by rw [HB3.out.2.2.2.2.1]; exact HL.out.2.2.1, by
                show usd (l.rs ++ [x.b]) ≤ _
                rw [usd_app]
                have h1 := HL.out.2.2.2.1; have h2 := HL.out.2.2.2.2.2.2.2
                have h3 : usd [x.b] = ln x.b.length := by rw [usd_cons, usd_nil]; rfl
                omega, hR4.bo, fun k hk => ?_⟩, HB3.out.1.trans hf34 (fun k hk => .inr (Nat.le_trans HLO.out (HB3.out.2.1.block k hk).1))⟩
              rcases hR4.at' with e | e
              · rw [e] at hk; exact HB3.out.2.2.2.2.2 k hk
              · have h1 := e k hk
                exact ⟨fun ho => by have := hall k (.inl ho); omega, fun ho => by have := hall k (.inr ho); omega⟩
            clear hR4 hf34 HB3 HAP3
            obtain ⟨s4, l4, v4, hl4, ha4, hc4, hu4, hb4, hp4⟩ := hM4.out.ex
            obtain ⟨uao, ucap, rfl⟩ := hb4.shape
            have hlow := own_low hl4
            have hcr := Crash_c hl4.d kv keep (HK.out.1.keep hM4.out.fp (fun _ _ _ h => h)) (fun h0 k hk ho => by have h1 := HK.out.2 h0 k hk; have h2 := (hlow k (.inl ho)).1; have h3 := HLO.out; omega)
            have HCR := Lib.hid hcr
            have H4 := Lib.hid (And.intro hl4 (And.intro ha4 (And.intro hc4 (And.intro hu4 (And.intro hb4 (And.intro hp4 hlow))))))
            clear hl4 ha4 hc4 hu4 hb4 hp4 hlow hcr
            go_wp2_with fail
            refine HCR.out.mono ?_
            rintro e w5 ⟨rfl, hd5, hf5⟩
            have hfw5 : Fp Non w w5 := hM4.out.fp.trans hf5 (fun k hk => .inr (Nat.le_trans HLO.out (H4.out.2.2.2.2.2.2 k (.inl hk)).1))
            have hb5 := H4.out.2.2.2.2.1.keep hf5 (fun k hk ho => (H4.out.2.2.2.2.2.1 k hk).1 ho) (fun k hk ho => by have h1 := (H4.out.2.2.2.2.2.2 k (.inl ho)).1; have h3 := HLO.out; omega)
            have hos := open_s hd5 (crash_dry _ H4.out.1.gd.dry.rt keep) (crash_gd H4.out.1.gd keep) (by rw [crash_acts]; have := H4.out.2.1; have := HQ.out.2.2.2.2.1; omega)
            have HOS := Lib.hid hos
            have hcl : (dCrash s4 keep).cur.length = 65536 := by
              have hm := crash_mx s4 H4.out.1.gd.dry.rt keep
              rw [H4.out.1.gd.dry.dry] at hm
              rw [hm.same]; exact H4.out.2.2.1
            have H5 := Lib.hid (And.intro hfw5 (And.intro hb5 (And.intro hcl (And.intro hf5.size hd5))))
            clear hd5 hf5 hfw5 hb5 hos hcl
            go_wp2_with fail
            refine HOS.out.mono ?_
            rintro e w6 ⟨⟨q6, s6, v6, rfl, hl6, hq6, ha6, hc6, _⟩, hf6⟩
            have hfw6 : Fp Non w w6 := H5.out.1.trans hf6 (fun k hk => .inr (Nat.le_trans HLO.out (H4.out.2.2.2.2.2.2 k (.inl hk)).1))
            have hb6 := H5.out.2.1.keep hf6 (fun k hk ho => (H4.out.2.2.2.2.2.1 k hk).1 ho) (fun k hk ho => by have h1 := (H4.out.2.2.2.2.2.2 k (.inl ho)).1; have h3 := HLO.out; omega)
            have hus6 : usd l4.rs ≤ 100000 := by have := H4.out.2.2.2.1; have := HQ.out.2.2.2.2.1; omega
            have hrc := Records_c hl6.lg (by show usd l4.rs ≤ _; omega)
            have HRC := Lib.hid hrc
            have hq6' : ∀ k, (Value.slice uao l4.rs.length ucap).ownBlock = some k → ¬ own3 b g m k ∧ ¬ ownL q6 v6 k := fun k hk => ⟨(H4.out.2.2.2.2.2.1 k hk).1, fun ho => by have h1 := (H4.out.2.2.2.2.1.block k hk).2; have h2 := hq6 k ho; have h3 := H5.out.2.2.2.1; omega⟩
            have H6 := Lib.hid (And.intro hl6 (And.intro ha6 (And.intro hc6 (And.intro hfw6 (And.intro hb6 (And.intro hus6 hq6'))))))
            clear hl6 hq6 ha6 hc6 hf6 hfw6 hb6 hus6 hrc hq6'
            go_wp2_with fail
            refine HRC.out.mono ?_
            rintro e w7 ⟨u7, rfl, hf7, hb7⟩
            have hnow : Bv (fun _ => True) w7 u7 l4.rs := hb7.view (fun _ _ => trivial) (fun _ _ => trivial)
            obtain ⟨nao, ncap, rfl⟩ := hb7.shape
            have hb67 := H6.out.2.2.2.2.1.keep hf7 (fun _ _ h => h) (fun _ _ h => h)
            have hsame := Same_c _ _ _ _ w7 hnow (hb67.view (E := fun _ => True) (fun _ _ => trivial) (fun _ _ => trivial)) (by have := usd_ge l4.rs; have := H6.out.2.2.2.2.2.1; omega)
            rw [show decide (l4.rs = l4.rs) = true from decide_eq_true rfl] at hsame
            have HSM := Lib.hid hsame
            have H7 := Lib.hid (And.intro hf7 hb67)
            clear hf7 hb7 hnow hb67 hsame
            go_wp2_with fail
            refine HSM.out.mono ?_
            rintro e w8 ⟨rfl, hf8⟩
            have hM : Hid (MnM w w1.heap.size b g m q6 (j + 1) (.slice uao l4.rs.length ucap) w8 0 0) :=
              ⟨⟨s6, ⟨l4.ar, l4.rs⟩, v6, (H6.out.1.non H7.out.1).non hf8, by have h1 := H6.out.2.1; rw [crash_acts] at h1; have h2 := H4.out.2.1; omega, by rw [H6.out.2.2.1]; exact H5.out.2.2.1, H4.out.2.2.2.1, H7.out.2.keep hf8 (fun _ _ h => h) (fun _ _ h => h), H6.out.2.2.2.2.2.2⟩, (H6.out.2.2.2.1.then H7.out.1).then hf8⟩
            have HFIN := Lib.hid HQ.out.2.2.2.2
            clear hf8 H4 H5 H6 H7 HSM HRC HOS HCR hM4 HQ HQC HL HAP HST
            go_wp2
            go_roundw
            case rel => exact ⟨j + 1, q6, HFIN.out.1, rfl, by go_num, hM⟩
            case measure => have := HFIN.out.1; simp [RowKit.intOf]; omega
      · have hje : j = N := by omega
        subst hje
        have z0 : ((j : Int) < (j : Int)) = False := eq_false (by omega)
        clear hlt hj
        go_wp2
        go_ret
        exact ⟨rfl, hR.out.fp⟩
end Go.Proofs.Ytkpcpnlfbajbiaa
