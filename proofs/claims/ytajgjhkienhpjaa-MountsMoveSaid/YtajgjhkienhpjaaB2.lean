/- MountsMove: what begins to move, and is flipped, is moved, of the next epoch; done once more both change nothing (gen_b2.py) -/
import Derived.Test.YtajgjhkienhpjaaBo
import Derived.Test.YtajgjhkienhpjaaB3
namespace Go.Proofs.Ytajgjhkienhpjaa
set_option maxRecDepth 20000
set_option linter.unusedVariables false
set_option linter.unusedSimpArgs false
open Go.RowKit Pm

/-- Ahead of a round. -/
structure MvI (p : Bs) (w : World) (lv : Value) (lc : List Mt) (q : Int) (wr : World) : Prop where
  ns : NsM wr lv lc
  sz : SzM lc
  fp : Fp Non w wr
  q : q = -1 ∨ (RtM lc ∧ ∃ y, getM lc p = some y ∧ y.e = q)
theorem MvI.least {p : Bs} {w : World} {lv : Value} {lc m : List Mt} {q to : Int} {wr : World} {x : Mt} (h : MvI p w lv lc q wr) (hb : Beg lc p to m x) : q ≤ x.e := by
  have he := okE_iff.1 hb.e
  rcases h.q with h1 | ⟨h1, y, h2, h3⟩
  · omega
  · obtain ⟨z, hz, _, hze⟩ := hb.own
    have := pick_of_get h1 h2
    rw [this] at hz
    injection hz with hz
    rw [hze, ← hz, h3]; exact Int.le_refl _
set_option maxHeartbeats 8000000 in
theorem MountsMove_c (v bv : Value) (l : List Mt) (p ways : Bs) (w : World) (hv : NsM w v l) (hn : l.length ≤ 140737488355328) (hbv : ByM w bv ways) :
    Calls Try.prog 4 #[v, .string (B p), bv] w fun e w' => e = .returned (.bool true) ∧ Fp Non w w' := by
  have hgr := fun W (f : Fp Non w W) => Great_c v l W (hv.non f) hn
  obtain ⟨ao, cap, rfl⟩ := hv.shape
  have hby := fun W (f : Fp Non w W) => hbv.non f
  obtain ⟨bo, bc, rfl⟩ := hbv.shape
  obtain ⟨N, hN⟩ : ∃ N, N = ways.length := ⟨_, rfl⟩
  have hNc : N ≤ 9223372036854775807 := by
    obtain ⟨a, c, e, h1, h2, _⟩ := hbv.ex
    unfold maxLen at h2; omega
  have HV := Lib.hid hv
  have HBY := Lib.hid (And.intro hN hby)
  rw [← hN]
  generalize l.length = n at *
  have HG := Lib.hid hgr
  clear hgr hv hn hby hbv hN
  go_enter Try.func4, Try.ntmps4
  go_wp2_with fail
  refine (head_c _).mono ?_
  rintro e w1 ⟨rfl, hf1⟩
  have F1 := Lib.hid hf1
  clear hf1
  go_wp2_with fail
  refine (HG.out _ F1.out).mono ?_
  rintro e w2 ⟨gr, rfl, hg, hf2⟩
  have F2 := Lib.hid (F1.out.then hf2)
  clear hf2 F1
  cases gr with
  | true =>
    clear hg
    go_wp2
    go_ret
    exact ⟨rfl, F2.out⟩
  | false =>
  have FEW := Lib.hid (hg rfl)
  clear hg
  by_cases hp0 : 1000 < p.length
  · have q10 : ((1000 : Int) < (p.length : Int)) = True := eq_true (by omega)
    have q20 : (1000 < p.length) = True := eq_true hp0
    clear hp0
    go_wp2
    go_ret
    exact ⟨rfl, F2.out⟩
  have q10 : ((1000 : Int) < (p.length : Int)) = False := eq_false (by omega)
  have q20 : (1000 < p.length) = False := eq_false hp0
  have HPB0 := Lib.hid (show p.length ≤ 1000000 by omega)
  clear hp0
  by_cases hw50 : 50 < N
  · have q3 : ((50 : Int) < (N : Int)) = True := eq_true (by omega)
    have q4 : (50 < N) = True := eq_true hw50
    clear hw50
    go_wp2
    go_ret
    exact ⟨rfl, F2.out⟩
  have q3 : ((50 : Int) < (N : Int)) = False := eq_false (by omega)
  have q4 : (50 < N) = False := eq_false hw50
  have hNb : N ≤ 50 := by omega
  have HI0 := Lib.hid (⟨HV.out.non F2.out, FEW.out.szs, F2.out, .inl rfl⟩ : MvI p w (.slice ao n cap) l (-1) w2)
  clear hw50 hNc HV FEW HG
  go_wp2_with fail
  go_loopw [0, 8, 9] (fun lv qv i wr => ∃ k : Nat, k ≤ N ∧ i = .int .i64 k ∧ ∃ q : Int, qv = .int .i64 q ∧ ∃ lc : List Mt, Hid (MvI p w lv lc q wr)) (fun _ _ i _ => N - (RowKit.intOf i).toNat)
  case atStart => exact ⟨0, Nat.zero_le _, rfl, _, rfl, _, HI0⟩
  case round =>
    clear HI0
    obtain ⟨k, hk, rfl, q, rfl, lc, hR⟩ := hrel
    rename_i wr _
    obtain ⟨a0, c0, rfl⟩ := hR.out.ns.shape
    by_cases hlt : k < N
    · have q5 : ((k : Int) < (N : Int)) = True := eq_true (by omega)
      have q6 : (k < N) = True := eq_true hlt
      have hkw : k < ways.length := by rw [← HBY.out.1]; exact hlt
      obtain ⟨g, o, cap', e, _, _, hb⟩ : ∃ g o cap, (Value.slice bo N bc) = .slice (some ⟨g, o, none⟩) N cap ∧ True ∧ True ∧ wr.cell? ⟨g, o + k, none⟩ = some (.int .u8 ((ways[k]).toNat : Int)) := by
        obtain ⟨a, c, e, _, _, h3⟩ := (HBY.out.2 _ hR.out.fp).ex
        rcases h3 with h3 | ⟨g, o, rfl, _, hc⟩
        · subst h3; simp at hkw
        · injection e with e1 e2 e3
          exact ⟨g, o, c, by rw [e1, e3], trivial, trivial, hc k hkw⟩
      injection e with e1 e2 e3
      subst e1 e3
      obtain ⟨b, hbb⟩ : ∃ b, b = (ways[k]).toNat := ⟨_, rfl⟩
      have hb256 : b < 256 := by rw [hbb]; exact (ways[k]).toNat_lt
      rw [← hbb] at hb
      have HK := Lib.hid hlt
      have hlcl := hR.out.sz.n
      obtain ⟨nl, hnl⟩ : ∃ nl, nl = lc.length := ⟨_, rfl⟩
      have hbg := fun to => Begin_c _ lc p to wr hR.out.ns hR.out.sz HPB0.out
      rw [← hnl] at hbg hlcl ⊢
      rw [← hnl] at hR
      have HBG := Lib.hid hbg
      clear hlt hbb hkw hbg hnl
      go_wp2_with fail
      generalize ((b : Int) % 4) = to at *
      obtain ⟨r, hr⟩ : ∃ r, bgn lc p to = r := ⟨_, rfl⟩
      have hbw := bgW lc p to
      rw [hr] at hbw
      have hbg := HBG.out to
      rw [hr] at hbg
      refine hbg.mono ?_
      intro e w3 hRr
      obtain ⟨ra, ⟨xd, xg, xe, xt⟩, re⟩ := r
      obtain ⟨v1, rfl, n1⟩ := hRr.ex
      unfold mtV strV
      simp only at n1 ⊢
      have hfa := fp_alloc w3 (.cells #[.string (B xd), .int .i64 xg, .int .i64 xe, .int .i64 xt] TM)
      have hbx := BxM.new w3 ⟨xd, xg, xe, xt⟩
      have K3 := Lib.hid (Kp.and (Kp.bxM hbx) (Kp.and (Kp.nsM (n1.non hfa)) (Kp.and (Kp.nsM ((hR.out.ns.non hRr.fp).non hfa)) (Kp.fp ((hR.out.fp.then hRr.fp).then hfa)))))
      have HSZ := Lib.hid hR.out.sz
      have HQ := Lib.hid hR.out.q
      have HLE := Lib.hid (fun m x (hb : Beg lc p to m x) => hR.out.least hb)
      have HBW := Lib.hid hbw
      clear hRr n1 hfa hbx hbg hr hb hbw HBG hR
      by_cases he : ¬ re = 0
      · have q7 : (re == 0) = false := beq_eq_false_iff_ne.2 he
        have q8 : (re = 0) = False := eq_false he
        have q9 : (re != 0) = true := by simp [bne, q7]
        have hl := begN HBW.out he
        simp only at hl
        by_cases he1 : re = 1
        · have q10 : (re == 1) = true := beq_iff_eq.2 he1
          have q11 : (re = 1) = True := eq_true he1
          have q12 : (re != 1) = false := by simp [bne, q10]
          clear he he1 hl
          have hkn := HK.out
          go_wp2
          go_roundw
          case rel => exact ⟨k + 1, by have := HK.out; omega, by go_num, q, rfl, lc, ⟨K3.out.now.2.2.1, HSZ.out, K3.out.now.2.2.2, HQ.out⟩⟩
          case measure => have := HK.out; simp [RowKit.intOf]; omega
        · have q10 : (re == 1) = false := beq_eq_false_iff_ne.2 he1
          have q11 : (re = 1) = False := eq_false he1
          have q12 : (re != 1) = true := by simp [bne, q10]
          have hll : ra = lc := hl.resolve_left he1
          subst hll
          have hsm := rSameM_c _ _ ra ra _ K3.out.now.2.1 K3.out.now.2.2.1 HSZ.out.n HSZ.out.n
          rw [decide_eq_true rfl] at hsm
          have HSM := Lib.hid hsm
          clear he he1 hl hsm
          go_wp2_with fail
          refine HSM.out.mono ?_
          rintro e w4 ⟨rfl, hf⟩
          have K4 := Lib.hid (K3.out.later hf)
          have hkn := HK.out
          clear hf
          go_wp2
          go_roundw
          case rel => exact ⟨k + 1, by have := HK.out; omega, by go_num, q, rfl, ra, ⟨K4.out.now.2.2.1, HSZ.out, K4.out.now.2.2.2, HQ.out⟩⟩
          case measure => have := HK.out; simp [RowKit.intOf]; omega
      have he := Decidable.not_not.1 he
      subst he
      have hb := beg HBW.out rfl
      simp only at hb
      have hxd : xd = p := hb.d
      have hxt : xt = to := hb.t
      subst hxd hxt
      have hle := HLE.out _ _ hb
      have hoe := okE_iff.1 hb.e
      have hmv : xt ≠ xg := by have := hb.mv; unfold mvM at this; simpa using this
      simp only at hle hoe
      unfold mxN at hoe
      have hras := hb.rt.szs
      have hbg2 := fun W (h : NsM W v1 ra) => Begin_c v1 ra xd xt W h hras HPB0.out
      rw [hb.twice] at hbg2
      have hfl1 := fun W (h : NsM W v1 ra) => Flip_c v1 ra xd (xe + 1) xt W h hras HPB0.out (by omega)
      have hfl2 := fun W (h : NsM W v1 ra) => Flip_c v1 ra xd xe xt W h hras HPB0.out (by omega)
      rw [hb.flip (xe + 1), if_neg (fun h => by have := h.1; simp only at this; omega)] at hfl1
      rw [hb.flip xe] at hfl2
      have hsm1 := fun vb W (h : NsM W v1 ra) (h2 : NsM W vb ra) => rSameM_c v1 vb ra ra W h h2 hras.n hras.n
      rw [decide_eq_true rfl] at hsm1
      have HB := Lib.hid hb
      have HLO := Lib.hid (And.intro hle hoe)
      have HBG2 := Lib.hid hbg2
      have HFL1 := Lib.hid hfl1
      have HFL2 := Lib.hid hfl2
      have HSM1 := Lib.hid hsm1
      have HRS := Lib.hid hras
      have hwx : IntKind.i64.wrap (xe + 1) = xe + 1 := by rw [IntKind.wrap_i64]; omega
      have r1 : (xd == xd) = true := beq_self_eq_true xd
      have r2 : (xt == xt) = true := beq_self_eq_true xt
      have r3 : (xg == xt) = false := beq_eq_false_iff_ne.2 (Ne.symm hmv)
      have r4 : (xg = xt) = False := eq_false (Ne.symm hmv)
      clear hb hle hoe hmv hbg2 hfl1 hfl2 hsm1 hras HLE HBW
      go_wp2_with fail
      refine (HBG2.out _ K3.out.now.2.1).mono ?_
      intro e w4 hRr
      obtain ⟨v2, rfl, n2⟩ := hRr.ex
      unfold mtV strV
      simp only at n2 ⊢
      have hfa := fp_alloc w4 (.cells #[.string (B xd), .int .i64 xg, .int .i64 xe, .int .i64 xt] TM)
      have hbx := BxM.new w4 ⟨xd, xg, xe, xt⟩
      have K4 := Lib.hid (Kp.and (Kp.bxM hbx) (Kp.and (Kp.nsM (n2.non hfa)) ((K3.out.later hRr.fp).later hfa)))
      clear hRr n2 hfa hbx K3
      have b1 := K4.out.now.1.at
      have b2 := K4.out.now.2.2.1.at
      have s0 := b1.1; have s1 := b1.2.1; have s2 := b1.2.2.1; have s3 := b1.2.2.2
      have t0 := b2.1; have t1 := b2.2.1; have t2 := b2.2.2.1; have t3 := b2.2.2.2
      simp only at s0 s1 s2 s3 t0 t1 t2 t3
      clear b1 b2
      have heq := fun W => eq_mts W ⟨xd, xg, xe, xt⟩ ⟨xd, xg, xe, xt⟩
      simp only [decide_true] at heq
      go_wp2_with fail
      refine (HSM1.out _ _ K4.out.now.2.2.2.1 K4.out.now.2.1).mono ?_
      rintro e w5 ⟨rfl, hf⟩
      have K5 := Lib.hid (K4.out.later hf)
      clear hf K4 s0 s1 s2 s3 t0 t1 t2 t3 heq
      have b2 := K5.out.now.2.2.1.at
      have t0 := b2.1; have t1 := b2.2.1; have t2 := b2.2.2.1; have t3 := b2.2.2.2
      simp only at t0 t1 t2 t3
      clear b2
      go_wp2_with fail
      refine (HFL1.out _ K5.out.now.2.2.2.1).mono ?_
      intro e w6 hRr
      obtain ⟨v3, rfl, n3⟩ := hRr.ex
      simp only
      have K6 := Lib.hid (K5.out.later hRr.fp)
      clear hRr n3 K5 t0 t1 t2 t3
      have t2 := K6.out.now.2.2.1.at.2.2.1
      simp only at t2
      go_wp2_with fail
      refine (HFL2.out _ K6.out.now.2.2.2.1).mono ?_
      intro e w7 hRr
      obtain ⟨v4, rfl, n4⟩ := hRr.ex
      by_cases hmx : ¬ xe < 281474976710656
      · have hmx2 : ¬ xe < mxN := hmx
        rw [if_neg (fun h => hmx2 h.2)] at n4 ⊢
        simp only at n4 ⊢
        have K7 := Lib.hid (Kp.and (Kp.nsM n4) (K6.out.later hRr.fp))
        have hfl3 := Flip_c v4 ra xd xe xt w7 n4 HRS.out HPB0.out (by have := HLO.out; omega)
        have hfd := fun W (h : NsM W v4 ra) => rFindM_c v4 ra xd W h HRS.out.n
        have q20 : ((281474976710656 : Int) ≤ xe) = True := eq_true (by omega)
        have HFL3 := Lib.hid hfl3
        have HFD := Lib.hid hfd
        clear hRr n4 hmx hmx2 hfl3 hfd t2 K6
        have t2 := K7.out.now.2.2.2.1.at.2.2.1
        simp only at t2
        go_wp2_with fail
        refine HFL3.out.mono ?_
        intro e w8 hRr
        obtain ⟨v5, rfl, n5⟩ := hRr.ex
        have K8 := Lib.hid (K7.out.later hRr.fp)
        clear hRr n5 K7 t2 HFL3
        go_wp2_with fail
        refine (HFD.out _ K8.out.now.1).mono ?_
        rintro e w9 ⟨rfl, hf⟩
        have K9 := Lib.hid (K8.out.later hf)
        clear hf K8
        have t2 := K9.out.now.2.2.2.1.at.2.2.1
        simp only at t2
        go_wp2
        go_ret
        exact ⟨rfl, K9.out.now.2.2.2.2.2.2⟩
      have hmx := Decidable.not_not.1 hmx
      have hmx2 : xe < mxN := hmx
      rw [if_pos ⟨by first | rfl | trivial, hmx2⟩] at n4 ⊢
      simp only at n4 ⊢
      obtain ⟨hcr, hcg, hcf⟩ := HB.out.flipped hmx2
      simp only at hcr hcg hcf
      obtain ⟨C, hC⟩ : ∃ C, C = putM ra ⟨xd, xt, xe + 1, xt⟩ := ⟨_, rfl⟩
      rw [← hC] at n4 hcr hcg hcf
      have hfl3 := Flip_c v4 C xd xe xt w7 n4 hcr.szs HPB0.out (by have := HLO.out; omega)
      rw [hcf] at hfl3
      have hfd := fun W (h : NsM W v4 C) => rFindM_c v4 C xd W h hcr.szs.n
      have hxc := exM_get (l := C) xd
      rw [hcg] at hxc
      obtain ⟨at_, hat⟩ : ∃ i, exM C xd = some i := by
        cases e : exM C xd with
        | none => rw [e] at hxc; cases hxc
        | some i => exact ⟨i, rfl⟩
      have hgx := exM_at hat
      rw [hcg] at hgx
      obtain ⟨hatl, hatd⟩ := exM_some hat
      rw [hat] at hfd
      have hce : C[at_] = ⟨xd, xt, xe + 1, xt⟩ := by injection hgx with h; exact h.symm
      have hsm2 := fun vb W (h : NsM W v4 C) (h2 : NsM W vb C) => rSameM_c v4 vb C C W h h2 hcr.szs.n hcr.szs.n
      rw [decide_eq_true rfl] at hsm2
      have hnd := fun W (h : NsM W v4 C) => (show ∃ g o cap, v4 = .slice (some ⟨g, o, none⟩) C.length cap ∧ NdAtM W g (o + at_ * 4) ⟨xd, xt, xe + 1, xt⟩ from by
        obtain ⟨g, o, cap, e, _, _, _, hcell⟩ := h.at (by omega)
        have := hcell at_ hatl
        rw [hce] at this
        exact ⟨g, o, cap, e, this⟩)
      have K7 := Lib.hid (Kp.and (Kp.nsM n4) (K6.out.later hRr.fp))
      have q20 : ((281474976710656 : Int) ≤ xe) = False := eq_false (by omega)
      have HFL3 := Lib.hid hfl3
      have HFD := Lib.hid hfd
      have HSM2 := Lib.hid hsm2
      have HND := Lib.hid hnd
      have HC := Lib.hid (And.intro hcr (And.intro hcg hatl))
      clear hRr n4 hmx hmx2 hfl3 hfd t2 K6 hcr hcg hcf hC hxc hat hgx hce hsm2 hnd HB
      have t2 := K7.out.now.2.2.2.1.at.2.2.1
      simp only at t2
      go_wp2_with fail
      refine HFL3.out.mono ?_
      intro e w8 hRr
      obtain ⟨v5, rfl, n5⟩ := hRr.ex
      simp only at n5 ⊢
      have K8 := Lib.hid (Kp.and (Kp.nsM n5) (K7.out.later hRr.fp))
      clear hRr n5 K7 t2 HFL3
      go_wp2_with fail
      refine (HFD.out _ K8.out.now.2.1).mono ?_
      rintro e w9 ⟨rfl, hf⟩
      have K9 := Lib.hid (K8.out.later hf)
      simp only [idx]
      clear hf K8
      have t2 := K9.out.now.2.2.2.2.1.at.2.2.1
      simp only at t2
      obtain ⟨g4, o4, c4, rfl, hnd⟩ := HND.out _ K9.out.now.2.1
      obtain ⟨nc, hnc⟩ : ∃ nc, nc = C.length := ⟨_, rfl⟩
      have hca := HC.out.2.2
      have hcl := HC.out.1.len
      rw [← hnc] at hca hcl ⊢
      rw [← hnc] at HSM2 K9
      have q21 : ((at_ : Int) < 0) = False := eq_false (by omega)
      have q22 : ((at_ : Int) < (nc : Int)) = True := eq_true (by omega)
      have q23 : (at_ < nc) = True := eq_true hca
      have q24 : (xe < q) = False := eq_false (by have := HLO.out; omega)
      have hatb : at_ ≤ 32 := by omega
      have r5 : (xe + 1 == xe + 1) = true := beq_self_eq_true _
      have HCA := Lib.hid (And.intro hnd.c1 (And.intro hnd.c2 (And.intro hnd.c3 t2)))
      simp only at HCA
      clear hnd hca hcl hnc hatd hatl hmx he HND HFD HFL1 HFL2 HBG2 HSM1
      go_wp2_with fail
      have KD := Lib.hid (K9.out.later ((Fp.refl Non w9).drew))
      have HDR := Lib.hid ((Fp.refl Non w9).drew)
      have HS1 := Lib.hid (⟨HDR.out.cell HCA.out.1 (fun h => h), HDR.out.cell HCA.out.2.1 (fun h => h), HDR.out.cell HCA.out.2.2.1 (fun h => h), HDR.out.cell HCA.out.2.2.2 (fun h => h)⟩ : (fun w' => w'.cell? ⟨g4, o4 + at_ * 4 + 1, none⟩ = some (.int .i64 xt) ∧ w'.cell? ⟨g4, o4 + at_ * 4 + 2, none⟩ = some (.int .i64 (xe + 1)) ∧ w'.cell? ⟨g4, o4 + at_ * 4 + 3, none⟩ = some (.int .i64 xt) ∧ w'.cell? ⟨w3.heap.size, 2, none⟩ = some (.int .i64 xe)) w9.drew)
      refine wp_region_held_drew (S := (fun w' => w'.cell? ⟨g4, o4 + at_ * 4 + 1, none⟩ = some (.int .i64 xt) ∧ w'.cell? ⟨g4, o4 + at_ * 4 + 2, none⟩ = some (.int .i64 (xe + 1)) ∧ w'.cell? ⟨g4, o4 + at_ * 4 + 3, none⟩ = some (.int .i64 xt) ∧ w'.cell? ⟨w3.heap.size, 2, none⟩ = some (.int .i64 xe))) (by kernel_rfl) ?_ (fun hHeld => ?_)
      · exact HS1.out
      try simp only [zP, zN, zS, zT, zU]
      refine tk 0 hHeld ?_
      refine tk 1 hHeld ?_
      refine tk 2 hHeld ?_
      refine tk 3 hHeld ?_
      refine tk 4 hHeld ?_
      refine tk 5 hHeld ?_
      refine tk 6 hHeld ?_
      refine tk 7 hHeld ?_
      refine tk 8 hHeld ?_
      refine tk 9 hHeld ?_
      refine tk 10 hHeld ?_
      refine tk 11 hHeld ?_
      refine tk 12 hHeld ?_
      refine rY 13 (fun K hK => ?_)
      go_simp
      go_at_call 16
      refine (HSM2.out _ _ KD.out.now.2.1 KD.out.now.1).mono ?_
      rintro e we ⟨rfl, f1⟩
      have HS2 := Lib.hid (⟨f1.cell HS1.out.1 (fun h => h), f1.cell HS1.out.2.1 (fun h => h), f1.cell HS1.out.2.2.1 (fun h => h), f1.cell HS1.out.2.2.2 (fun h => h)⟩ : (fun w' => w'.cell? ⟨g4, o4 + at_ * 4 + 1, none⟩ = some (.int .i64 xt) ∧ w'.cell? ⟨g4, o4 + at_ * 4 + 2, none⟩ = some (.int .i64 (xe + 1)) ∧ w'.cell? ⟨g4, o4 + at_ * 4 + 3, none⟩ = some (.int .i64 xt) ∧ w'.cell? ⟨w3.heap.size, 2, none⟩ = some (.int .i64 xe)) we)
      have KE := Lib.hid (KD.out.later f1)
      clear f1
      go_wp2_with fail
      refine hK.out _ _ HS2.out (fun hHeld => ?_)
      clear hK K
      try simp only [zP, zN, zS, zT, zU]
      refine tk 14 hHeld ?_
      refine tk 15 hHeld ?_
      refine tk 16 hHeld ?_
      refine tk 17 hHeld ?_
      refine tk 18 hHeld ?_
      refine tk 19 hHeld ?_
      refine tk 20 hHeld ?_
      refine tk 21 hHeld ?_
      refine tk 22 hHeld ?_
      refine tk 23 hHeld ?_
      refine tk 24 hHeld ?_
      refine tk 25 hHeld ?_
      refine tk 26 hHeld ?_
      refine tk 27 hHeld ?_
      refine tk 28 hHeld ?_
      refine tk 29 hHeld ?_
      refine tk 30 hHeld ?_
      refine tk 31 hHeld ?_
      refine tk 32 hHeld ?_
      refine tk 33 hHeld ?_
      refine tk 34 hHeld ?_
      refine tk 35 hHeld ?_
      refine tk 36 hHeld ?_
      refine tk 37 hHeld ?_
      refine tk 38 hHeld ?_
      refine tk 39 hHeld ?_
      refine tk 40 hHeld ?_
      refine tk 41 hHeld ?_
      refine tk 42 hHeld ?_
      refine tk 43 hHeld ?_
      refine tk 44 hHeld ?_
      refine tk 45 hHeld ?_
      refine tk 46 hHeld ?_
      refine tk 47 hHeld ?_
      refine tk 48 hHeld ?_
      refine tk 49 hHeld ?_
      refine tk 50 hHeld ?_
      refine tk 51 hHeld ?_
      refine tk 52 hHeld ?_
      refine tk 53 hHeld ?_
      refine tk 54 hHeld ?_
      refine yD ?_
      have hnd := HS2.out
      have e2 := hnd.2.1
      clear hnd
      have hkn := HK.out
      go_wp2
      go_roundw
      case rel => exact ⟨k + 1, by have := HK.out; omega, by go_num, xe + 1, rfl, C, ⟨KE.out.now.2.1, HC.out.1.szs, KE.out.now.2.2.2.2.2.2.2, .inr ⟨HC.out.1, _, HC.out.2.1, rfl⟩⟩⟩
      case measure => have := HK.out; simp [RowKit.intOf]; omega
    · have hke : k = N := by omega
      subst hke
      have q5 : ((k : Int) < (k : Int)) = False := eq_false (by omega)
      have HZ := Lib.hid hR.out.fp
      clear hlt hk hR
      go_wp2
      go_ret
      exact ⟨rfl, HZ.out⟩
end Go.Proofs.Ytajgjhkienhpjaa
