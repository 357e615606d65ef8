/- WatchCloses, walked (gen_zk.py) -/
import Derived.Test.YthgcmkgfmmjmaaaZj
namespace Go.Proofs.Ythgcmkgfmmjmaaa
set_option maxRecDepth 20000
set_option linter.unusedVariables false
set_option linter.unusedSimpArgs false
open Go.RowKit Pm


set_option maxHeartbeats 16000000 in
theorem WatchCloses_c (v : Value) (d : Wd) (x : Wt) (kd : Int) (p : Bs) (w : World) (hv : WdR w v d) (hn : d.ws.length ≤ 140737488355328) (hm : d.ss.length ≤ 140737488355328) :
    Calls Try.prog 8 #[v, wtV x, .int .i64 kd, .string (B p)] w fun e w' => e = .returned (.bool true) ∧ Fp Non w w' := by
  obtain ⟨aw, cw, at_, cs, rfl⟩ := hv.vals
  obtain ⟨sx, nx, px, dx⟩ := x
  obtain ⟨n, hnn⟩ : ∃ n, n = d.ws.length := ⟨_, rfl⟩
  obtain ⟨m, hmm⟩ : ∃ m, m = d.ss.length := ⟨_, rfl⟩
  rw [← hnn, ← hmm] at hv ⊢
  have f0 := fp_alloc w (.cells #[.slice aw n cw, .slice at_ m cs] TD)
  have f1 := fp_alloc (w.alloc (.cells #[.slice aw n cw, .slice at_ m cs] TD)) (.cells #[.int .i64 sx, .int .i64 nx, .string (B px), .bool dx] TW)
  have r0 := f1.heap (heap_alloc_new w (.cells #[.slice aw n cw, .slice at_ m cs] TD)) (fun h => h)
  have r1 := heap_alloc_new (w.alloc (.cells #[.slice aw n cw, .slice at_ m cs] TD)) (.cells #[.int .i64 sx, .int .i64 nx, .string (B px), .bool dx] TW)
  have sz1 : ((w.alloc (.cells #[.slice aw n cw, .slice at_ m cs] TD))).heap.size = w.heap.size + 1 := by simp
  rw [sz1] at r1
  have K0 := Lib.hid (Kp.and (Kp.row r0) (Kp.and (Kp.row r1) (Kp.and (Kp.wd (hv.non (f0.then f1))) (Kp.fp (f0.then f1)))))
  have HN := Lib.hid (And.intro hnn (And.intro hmm (And.intro hn hm)))
  clear hv hn hm hnn hmm r0 r1 f0 f1 sz1
  unfold wtV strV
  go_enter Try.func8, Try.ntmps8
  go_wp2_with fail
  refine (head_c _).mono ?_
  rintro e w1 ⟨rfl, hf⟩
  have K1 := Lib.hid (K0.out.later hf)
  clear hf K0
  obtain ⟨p0, p1⟩ := boxP2 K1.out.now.1
  go_wp2_with fail
  refine (GreatAll_c _ d w1 K1.out.now.2.2.1 HN.out.2.2.1 HN.out.2.2.2).mono ?_
  rintro e w2 ⟨g, rfl, hg, hf⟩
  have K2 := Lib.hid (K1.out.later hf)
  have HG := Lib.hid hg
  clear hf hg K1 p0 p1
  have F2 := Lib.hid K2.out.now.2.2.2
  obtain ⟨p0, p1⟩ := boxP2 K2.out.now.1
  obtain ⟨x0, x1, x2, x3⟩ := boxP4 K2.out.now.2.1
  cases g with
  | true =>
    clear K2 HG
    go_wp2
    go_ret
    exact ⟨rfl, F2.out⟩
  | false =>
    have HFW := Lib.hid (HG.out rfl)
    have hwe : WdR w2 (.agg #[.slice aw n cw, .slice at_ m cs]) d := K2.out.now.2.2.1
    clear HG
    by_cases hlong : 1000 < px.length
    · have q1a : (1000 < px.length) = True := eq_true hlong
      have q1b : ((1000 : Int) < (px.length : Int)) = True := eq_true (by omega)
      clear hlong 
      go_wp2
      go_ret
      exact ⟨rfl, F2.out⟩
    have q1a : (1000 < px.length) = False := eq_false hlong
    have q1b : ((1000 : Int) < (px.length : Int)) = False := eq_false (by omega)
    have Hq1 := Lib.hid (show px.length ≤ 1000 by omega)
    clear hlong
    by_cases hlong : 1000 < p.length
    · have q2a : (1000 < p.length) = True := eq_true hlong
      have q2b : ((1000 : Int) < (p.length : Int)) = True := eq_true (by omega)
      clear hlong 
      go_wp2
      go_ret
      exact ⟨rfl, F2.out⟩
    have q2a : (1000 < p.length) = False := eq_false hlong
    have q2b : ((1000 : Int) < (p.length : Int)) = False := eq_false (by omega)
    have Hq2 := Lib.hid (show p.length ≤ 1000 by omega)
    clear hlong
    by_cases hlong : 64 ≤ n
    · have q3a : (64 ≤ n) = True := eq_true hlong
      have q3b : ((64 : Int) ≤ (n : Int)) = True := eq_true (by omega)
      clear hlong 
      go_wp2
      go_ret
      exact ⟨rfl, F2.out⟩
    have q3a : (64 ≤ n) = False := eq_false hlong
    have q3b : ((64 : Int) ≤ (n : Int)) = False := eq_false (by omega)
    have Hq3 := Lib.hid (show n < 64 by omega)
    clear hlong
    have had := Add_w _ d ⟨sx, nx, px, dx⟩ w2 hwe HFW.out.sz (show px.length ≤ 1000000 by have := Hq1.out; omega)
    unfold wtV strV at had
    simp only at had
    clear hwe
    by_cases he : (addM d ⟨sx, nx, px, dx⟩).2 = 0
    · rw [he] at had
      have hcl := closes kd p he
      have HAD := Lib.hid had
      obtain ⟨dA, hdA⟩ : ∃ D, D = (⟨d.ws ++ [⟨sx, nx, px, dx⟩], putS d.ss (seS d.ss sx)⟩ : Wd) := ⟨_, rfl⟩
      obtain ⟨dB, hdB⟩ : ∃ D, D = (⟨d.ws, putS d.ss (seS d.ss sx)⟩ : Wd) := ⟨_, rfl⟩
      simp only at hcl
      rw [← hdA, ← hdB] at hcl
      have hsm := HFW.out.n
      have HADD : Hid (RetW dA 0 w2 = RetW (addM d ⟨sx, nx, px, dx⟩).1 0 w2) := by rw [hcl.a]; rfl
      rw [← HADD.out] at HAD
      have hcc := fun v W (hW : WdR W v dA) => Close_w v dA sx nx W hW (right_sz hcl.ra (by have := hcl.la; omega))
      rw [hcl.c] at hcc
      have ht1 := fun v W (hW : WdR W v dB) => Tell_w v dB kd p W hW (right_sz hcl.rb (by have := hcl.lb; omega)) (by have := Hq2.out; omega)
      have ht2 := fun v W (hW : WdR W v d) => Tell_w v d kd p W hW HFW.out.sz (by have := Hq2.out; omega)
      have hta := fun v W (hW : WdR W v dA) => Take_w v dA sx 0 W hW (right_sz hcl.ra (by have := hcl.la; omega))
      have htb := fun v W (hW : WdR W v dB) => Take_w v dB sx 0 W hW (right_sz hcl.rb (by have := hcl.lb; omega))
      have hag := fun v W (hW : WdR W v dB) => Add_w v dB ⟨sx, nx, px, dx⟩ W hW (right_sz hcl.rb (by have := hcl.lb; omega)) (show px.length ≤ 1000000 by have := Hq1.out; omega)
      rw [hcl.ag] at hag
      rw [hcl.ta] at hta
      rw [hcl.tb] at htb
      rw [hcl.t] at ht1
      unfold wtV strV at hag
      simp only at hta htb hag hcc
      obtain ⟨er, her⟩ : ∃ E, E = (tellM d kd p).2 := ⟨_, rfl⟩
      obtain ⟨dC, hdC⟩ : ∃ E, E = (tellM dB kd p).1 := ⟨_, rfl⟩
      obtain ⟨dD, hdD⟩ : ∃ E, E = (tellM d kd p).1 := ⟨_, rfl⟩
      obtain ⟨ev, hev⟩ : ∃ E, E = (seS d.ss sx).evs := ⟨_, rfl⟩
      obtain ⟨dE, hdE⟩ : ∃ E, E = (takeM dA sx 0).1 := ⟨_, rfl⟩
      obtain ⟨dF, hdF⟩ : ∃ E, E = (takeM dB sx 0).1 := ⟨_, rfl⟩
      obtain ⟨dG, hdG⟩ : ∃ E, E = (addM dB ⟨sx, nx, px, dx⟩).1 := ⟨_, rfl⟩
      have hfc := fun v W (hW : WdR W v dC) => Find_c v dC sx W hW (by have := hcl.lc; rw [hdC]; omega)
      have hfd := fun v W (hW : WdR W v dD) => Find_c v dD sx W hW (by have := hcl.ld; rw [hdD]; omega)
      have HC := Lib.hid hcl
      have hle : ev.length ≤ 8 := by rw [hev]; exact hcl.le
      have hek : er = 0 ∨ er = 1 := by rw [her]; exact tell_kind d kd p
      have hss : er = 0 → seS dC.ss sx = seS dD.ss sx ∧ (getS dC.ss sx).isSome = true := by rw [her, hdC, hdD]; exact hcl.s
      have hl8 : er = 0 → (seS dD.ss sx).evs.length ≤ 8 := by rw [her, hdD]; exact hcl.l8
      rw [← hdC, ← her] at ht1
      rw [← hdD, ← her] at ht2
      rw [← hev, ← hdE] at hta
      rw [← hev, ← hdF] at htb
      rw [← hdG] at hag
      have HCC := Lib.hid hcc
      have HT1 := Lib.hid ht1
      have HT2 := Lib.hid ht2
      have HTA := Lib.hid hta
      have HTB := Lib.hid htb
      have HAG := Lib.hid hag
      have HFC := Lib.hid hfc
      have HFD := Lib.hid hfd
      have HEK := Lib.hid (And.intro hek (And.intro hss (And.intro hl8 hle)))
      clear hcc ht1 ht2 hta htb hag hfc hfd hek hss hl8 hle hcl had hdA hdB her hdC hdD hev hdE hdF hdG he HADD HC hsm
      go_wp2_with fail
      refine (HAD.out).mono ?_
      rintro e w4 hR
      obtain ⟨a4, m4, c4, d4, k4, e4, rfl, hm4, hk4, hw4⟩ := hR.bx
      have hbx := heap_alloc_new w4 (.cells #[.slice a4 m4 c4, .slice d4 k4 e4] TD)
      have HM4 := Lib.hid (And.intro hm4 hk4)
      clear hm4 hk4 
      have K4 := Lib.hid (Kp.and (Kp.row hbx) ((Kp.and (Kp.wd hw4) (K2.out.later hR.fp)).later (fp_alloc w4 (.cells #[.slice a4 m4 c4, .slice d4 k4 e4] TD))))
      clear hR hbx hw4  K2 p0 p1 x0 x1 x2 x3 HAD F2
      obtain ⟨p0, p1⟩ := boxP2 K4.out.now.1
      obtain ⟨x0, x1, x2, x3⟩ := boxP4 K4.out.now.2.2.2.1
      go_wp2_with fail
      refine (HCC.out _ _ K4.out.now.2.1).mono ?_
      rintro e w5 hR
      obtain ⟨a5, m5, c5, d5, k5, e5, rfl, hm5, hk5, hw5⟩ := hR.bx
      have hbx := heap_alloc_new w5 (.cells #[.slice a5 m5 c5, .slice d5 k5 e5] TD)
      have HM5 := Lib.hid (And.intro hm5 hk5)
      clear hm5 hk5 
      have K5 := Lib.hid (Kp.and (Kp.row hbx) ((Kp.and (Kp.wd hw5) (K4.out.later hR.fp)).later (fp_alloc w5 (.cells #[.slice a5 m5 c5, .slice d5 k5 e5] TD))))
      clear hR hbx hw5  K4 p0 p1 x0 x1 x2 x3 HCC
      obtain ⟨p0, p1⟩ := boxP2 K5.out.now.1
      go_wp2_with fail
      refine (HT1.out _ _ K5.out.now.2.1).mono ?_
      rintro e w6 hR
      obtain ⟨a6, m6, c6, d6, k6, e6, rfl, hm6, hk6, hw6⟩ := hR.bx
      have hbx := heap_alloc_new w6 (.cells #[.slice a6 m6 c6, .slice d6 k6 e6] TD)
      have HM6 := Lib.hid (And.intro hm6 hk6)
      clear hm6 hk6 
      have K6 := Lib.hid (Kp.and (Kp.row hbx) ((Kp.and (Kp.wd hw6) (K5.out.later hR.fp)).later (fp_alloc w6 (.cells #[.slice a6 m6 c6, .slice d6 k6 e6] TD))))
      clear hR hbx hw6  K5 p0 p1 HT1
      obtain ⟨p0, p1⟩ := boxP2 K6.out.now.2.2.2.2.2.2.1
      go_wp2_with fail
      refine (HT2.out _ _ K6.out.now.2.2.2.2.2.2.2.2.1).mono ?_
      rintro e w7 hR
      obtain ⟨a7, m7, c7, d7, k7, e7, rfl, hm7, hk7, hw7⟩ := hR.bx
      have hbx := heap_alloc_new w7 (.cells #[.slice a7 m7 c7, .slice d7 k7 e7] TD)
      have HM7 := Lib.hid (And.intro hm7 hk7)
      clear hm7 hk7 
      have K7 := Lib.hid (Kp.and (Kp.row hbx) ((Kp.and (Kp.wd hw7) (K6.out.later hR.fp)).later (fp_alloc w7 (.cells #[.slice a7 m7 c7, .slice d7 k7 e7] TD))))
      clear hR hbx hw7  K6 p0 p1 HT2
      obtain ⟨p0, p1⟩ := boxP2 K7.out.now.2.2.2.2.1
      obtain ⟨x0, x1, x2, x3⟩ := boxP4 K7.out.now.2.2.2.2.2.2.2.2.2.1
      go_wp2_with fail
      refine (HTB.out _ _ K7.out.now.2.2.2.2.2.1).mono ?_
      rintro e w8 hR
      obtain ⟨a8, m8, c8, d8, k8, e8, l8, n8, f8, rfl, hm8, hk8, hn8, hw8, hl8⟩ := hR.bx
      have hbx := heap_alloc_new w8 (.cells #[.slice a8 m8 c8, .slice d8 k8 e8] TD)
      have HM8 := Lib.hid (And.intro hm8 (And.intro hk8 hn8))
      clear hm8 hk8 hn8
      have K8 := Lib.hid (Kp.and (Kp.row hbx) ((Kp.and (Kp.wd hw8) (Kp.and (Kp.ne hl8) (K7.out.later hR.fp))).later (fp_alloc w8 (.cells #[.slice a8 m8 c8, .slice d8 k8 e8] TD))))
      clear hR hbx hw8 hl8 K7 p0 p1 x0 x1 x2 x3 HTB
      obtain ⟨p0, p1⟩ := boxP2 K8.out.now.2.2.2.2.2.2.2.2.2.1
      obtain ⟨x0, x1, x2, x3⟩ := boxP4 K8.out.now.2.2.2.2.2.2.2.2.2.2.2.2.1
      go_wp2_with fail
      refine (HTA.out _ _ K8.out.now.2.2.2.2.2.2.2.2.2.2.1).mono ?_
      rintro e w9 hR
      obtain ⟨a9, m9, c9, d9, k9, e9, l9, n9, f9, rfl, hm9, hk9, hn9, hw9, hl9⟩ := hR.bx
      have hbx := heap_alloc_new w9 (.cells #[.slice a9 m9 c9, .slice d9 k9 e9] TD)
      have HM9 := Lib.hid (And.intro hm9 (And.intro hk9 hn9))
      clear hm9 hk9 hn9
      have K9 := Lib.hid (Kp.and (Kp.row hbx) ((Kp.and (Kp.wd hw9) (Kp.and (Kp.ne hl9) (K8.out.later hR.fp))).later (fp_alloc w9 (.cells #[.slice a9 m9 c9, .slice d9 k9 e9] TD))))
      clear hR hbx hw9 hl9 K8 p0 p1 x0 x1 x2 x3 HTA
      obtain ⟨p0, p1⟩ := boxP2 K9.out.now.2.2.2.2.2.2.2.2.2.2.1
      obtain ⟨x0, x1, x2, x3⟩ := boxP4 K9.out.now.2.2.2.2.2.2.2.2.2.2.2.2.2.2.2.1
      go_wp2_with fail
      refine (HAG.out _ _ K9.out.now.2.2.2.2.2.2.2.2.2.2.2.1).mono ?_
      rintro e w10 hR
      obtain ⟨a10, m10, c10, d10, k10, e10, rfl, hm10, hk10, hw10⟩ := hR.bx
      have hbx := heap_alloc_new w10 (.cells #[.slice a10 m10 c10, .slice d10 k10 e10] TD)
      have HM10 := Lib.hid (And.intro hm10 hk10)
      clear hm10 hk10 
      have K10 := Lib.hid (Kp.and (Kp.row hbx) ((Kp.and (Kp.wd hw10) (K9.out.later hR.fp)).later (fp_alloc w10 (.cells #[.slice a10 m10 c10, .slice d10 k10 e10] TD))))
      clear hR hbx hw10  K9 p0 p1 x0 x1 x2 x3 HAG
      have HSA := Lib.hid (SameEv_t (.slice l8 n8 f8) (.slice l9 n9 f9) ev _ K10.out.now.2.2.2.2.2.2.2.1 K10.out.now.2.2.2.2.1 (by have := HEK.out.2.2.2; omega))
      have hek := HEK.out.1
      rcases hek with rfl | rfl
      · go_wp2_with fail
        refine HSA.out.mono ?_
        rintro e w11 ⟨rfl, hf⟩
        have K11 := Lib.hid (K10.out.later hf)
        clear hf K10 HSA
        have HQ := Lib.hid (HEK.out.2.1 (by first | rfl | trivial))
        have H8 := Lib.hid (HEK.out.2.2.1 (by first | rfl | trivial))
        obtain ⟨p0, p1⟩ := boxP2 K11.out.now.2.2.2.2.2.2.2.2.2.2.1
        obtain ⟨x0, x1, x2, x3⟩ := boxP4 K11.out.now.2.2.2.2.2.2.2.2.2.2.2.2.2.2.2.2.2.1
        go_wp2_with fail
        refine (HFC.out _ _ K11.out.now.2.2.2.2.2.2.2.2.2.2.2.1).mono ?_
        rintro e w12 hR
        have hff := hR.fp
        obtain ⟨vv, rfl, hne⟩ := hR.ex
        obtain ⟨a12, c12, rfl⟩ := hne.shape
        rw [HQ.out.1] at hne ⊢
        rw [HQ.out.2]
        obtain ⟨s12, hs12⟩ : ∃ S, S = seS dD.ss sx := ⟨_, rfl⟩
        rw [← hs12] at hne ⊢
        obtain ⟨n12, hn12⟩ : ∃ S, S = s12.evs.length := ⟨_, rfl⟩
        rw [← hn12] at hne ⊢
        have hbx := heap_alloc_new w12 (.cells #[.int .i64 s12.num, .int .i64 s12.count, .slice a12 n12 c12] TV)
        have K12 := Lib.hid (Kp.and (Kp.row hbx) ((Kp.and (Kp.ne hne) (K11.out.later hff)).later (fp_alloc w12 (.cells #[.int .i64 s12.num, .int .i64 s12.count, .slice a12 n12 c12] TV))))
        have HS12 := Lib.hid (And.intro hs12 hn12)
        clear hR hne hbx hff hs12 hn12 K11 HFC p0 p1 x0 x1 x2 x3 
        obtain ⟨p0, p1⟩ := boxP2 K12.out.now.2.2.2.2.2.2.2.2.2.2.1
        obtain ⟨x0, x1, x2, x3⟩ := boxP4 K12.out.now.2.2.2.2.2.2.2.2.2.2.2.2.2.2.2.2.2.2.2.1
        go_wp2_with fail
        refine (HFD.out _ _ K12.out.now.2.2.2.2.2.2.2.2.2.2.2.1).mono ?_
        rintro e w13 hR
        have hff := hR.fp
        obtain ⟨vv, rfl, hne⟩ := hR.ex
        obtain ⟨a13, c13, rfl⟩ := hne.shape
        obtain ⟨s13, hs13⟩ : ∃ S, S = seS dD.ss sx := ⟨_, rfl⟩
        obtain ⟨is, his⟩ : ∃ S, S = (getS dD.ss sx).isSome := ⟨_, rfl⟩
        rw [← his]
        rw [← hs13] at hne ⊢
        obtain ⟨n13, hn13⟩ : ∃ S, S = s13.evs.length := ⟨_, rfl⟩
        rw [← hn13] at hne ⊢
        have hbx := heap_alloc_new w13 (.cells #[.int .i64 s13.num, .int .i64 s13.count, .slice a13 n13 c13] TV)
        have K13 := Lib.hid (Kp.and (Kp.row hbx) ((Kp.and (Kp.ne hne) (K12.out.later hff)).later (fp_alloc w13 (.cells #[.int .i64 s13.num, .int .i64 s13.count, .slice a13 n13 c13] TV))))
        have HS13 := Lib.hid (And.intro hs13 hn13)
        clear hR hne hbx hff hs13 hn13 K12 HFD p0 p1 x0 x1 x2 x3 his
        have hss : s12 = s13 := by rw [HS12.out.1, HS13.out.1]
        have hnn : n12 = n13 := by rw [HS12.out.2, HS13.out.2, hss]
        obtain ⟨p0, p1, p2⟩ := boxP3 K13.out.now.2.2.1
        obtain ⟨r0, r1, r2⟩ := boxP3 K13.out.now.1
        have HSB := Lib.hid (SameEv_t (.slice a12 n12 c12) (.slice a13 n13 c13) s13.evs _ (by have h := K13.out.now.2.2.2.1; rw [hss] at h; exact h) K13.out.now.2.1 (by have := H8.out; rw [HS13.out.1]; omega))
        rw [hss] at p0 p1
        have FF := Lib.hid K13.out.now.2.2.2.2.2.2.2.2.2.2.2.2.2.2.2.2.2.2.2.2.2.2.2
        clear hss hnn HS12 HS13 H8 HQ HEK K13
        cases is with
        | false =>
          go_wp2_with fail
          go_ret
          exact ⟨rfl, FF.out⟩
        | true =>
          go_wp2_with fail
          refine HSB.out.mono ?_
          rintro e w14 ⟨rfl, hf⟩
          have FG := Lib.hid (FF.out.then hf)
          clear hf
          go_wp2_with fail
          go_ret
          exact ⟨rfl, FG.out⟩
      · go_wp2_with fail
        refine HSA.out.mono ?_
        rintro e w11 ⟨rfl, hf⟩
        have K11 := Lib.hid (K10.out.later hf)
        clear hf K10 HSA
        obtain ⟨p0, p1⟩ := boxP2 K11.out.now.2.2.2.2.2.2.2.2.2.2.1
        obtain ⟨x0, x1, x2, x3⟩ := boxP4 K11.out.now.2.2.2.2.2.2.2.2.2.2.2.2.2.2.2.2.2.1
        go_wp2_with fail
        refine (HFC.out _ _ K11.out.now.2.2.2.2.2.2.2.2.2.2.2.1).mono ?_
        rintro e w12 hR
        have hff := hR.fp
        obtain ⟨vv, rfl, hne⟩ := hR.ex
        obtain ⟨a12, c12, rfl⟩ := hne.shape
        obtain ⟨s12, hs12⟩ : ∃ S, S = seS dC.ss sx := ⟨_, rfl⟩
        obtain ⟨is12, his⟩ : ∃ S, S = (getS dC.ss sx).isSome := ⟨_, rfl⟩
        rw [← his]
        rw [← hs12] at hne ⊢
        obtain ⟨n12, hn12⟩ : ∃ S, S = s12.evs.length := ⟨_, rfl⟩
        rw [← hn12] at hne ⊢
        have hbx := heap_alloc_new w12 (.cells #[.int .i64 s12.num, .int .i64 s12.count, .slice a12 n12 c12] TV)
        have K12 := Lib.hid (Kp.and (Kp.row hbx) ((Kp.and (Kp.ne hne) (K11.out.later hff)).later (fp_alloc w12 (.cells #[.int .i64 s12.num, .int .i64 s12.count, .slice a12 n12 c12] TV))))
        have HS12 := Lib.hid (And.intro hs12 hn12)
        clear hR hne hbx hff hs12 hn12 K11 HFC p0 p1 x0 x1 x2 x3 his
        obtain ⟨p0, p1⟩ := boxP2 K12.out.now.2.2.2.2.2.2.2.2.2.2.1
        obtain ⟨x0, x1, x2, x3⟩ := boxP4 K12.out.now.2.2.2.2.2.2.2.2.2.2.2.2.2.2.2.2.2.2.2.1
        go_wp2_with fail
        refine (HFD.out _ _ K12.out.now.2.2.2.2.2.2.2.2.2.2.2.1).mono ?_
        rintro e w13 hR
        have hff := hR.fp
        obtain ⟨vv, rfl, hne⟩ := hR.ex
        obtain ⟨a13, c13, rfl⟩ := hne.shape
        obtain ⟨s13, hs13⟩ : ∃ S, S = seS dD.ss sx := ⟨_, rfl⟩
        obtain ⟨is13, his⟩ : ∃ S, S = (getS dD.ss sx).isSome := ⟨_, rfl⟩
        rw [← his]
        rw [← hs13] at hne ⊢
        obtain ⟨n13, hn13⟩ : ∃ S, S = s13.evs.length := ⟨_, rfl⟩
        rw [← hn13] at hne ⊢
        have hbx := heap_alloc_new w13 (.cells #[.int .i64 s13.num, .int .i64 s13.count, .slice a13 n13 c13] TV)
        have K13 := Lib.hid (Kp.and (Kp.row hbx) ((Kp.and (Kp.ne hne) (K12.out.later hff)).later (fp_alloc w13 (.cells #[.int .i64 s13.num, .int .i64 s13.count, .slice a13 n13 c13] TV))))
        have HS13 := Lib.hid (And.intro hs13 hn13)
        clear hR hne hbx hff hs13 hn13 K12 HFD p0 p1 x0 x1 x2 x3 his
        have FF := Lib.hid K13.out.now.2.2.2.2.2.2.2.2.2.2.2.2.2.2.2.2.2.2.2.2.2.2.2
        clear K13 HEK HS12 HS13
        go_wp2_with fail
        go_ret
        exact ⟨rfl, FF.out⟩
    · obtain ⟨er, her⟩ : ∃ E, E = (addM d ⟨sx, nx, px, dx⟩).2 := ⟨_, rfl⟩
      rw [← her] at had he
      have HAD := Lib.hid had
      clear had her
      go_wp2_with fail
      refine (HAD.out).mono ?_
      rintro e w4 hR
      obtain ⟨a4, m4, c4, d4, k4, e4, rfl, hm4, hk4, hw4⟩ := hR.bx
      have hbx := heap_alloc_new w4 (.cells #[.slice a4 m4 c4, .slice d4 k4 e4] TD)
      have HM4 := Lib.hid (And.intro hm4 hk4)
      clear hm4 hk4 
      have K4 := Lib.hid (Kp.and (Kp.row hbx) ((Kp.and (Kp.wd hw4) (K2.out.later hR.fp)).later (fp_alloc w4 (.cells #[.slice a4 m4 c4, .slice d4 k4 e4] TD))))
      clear hR hbx hw4  K2 p0 p1 x0 x1 x2 x3 HAD F2
      have F4 := Lib.hid K4.out.now.2.2.2.2.2
      clear K4
      have e1 : (er == 0) = false := beq_eq_false_iff_ne.2 he
      have e2 : (er = 0) = False := eq_false he
      have e3 : (er != 0) = true := by simp [he]
      clear he
      go_wp2
      go_ret
      exact ⟨rfl, F4.out⟩
end Go.Proofs.Ythgcmkgfmmjmaaa
