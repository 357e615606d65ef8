/- MountsKeep: a Begin changes no directory's Group; a Flip just that of the directories of its mount (gen_b1.py) -/
import Derived.Test.YtajgjhkienhpjaaB3
import Derived.Test.YtajgjhkienhpjaaBv
namespace Go.Proofs.Ytajgjhkienhpjaa
set_option maxRecDepth 20000
set_option linter.unusedVariables false
set_option linter.unusedSimpArgs false
open Go.RowKit Pm

theorem Kp.nsM2 {W : World} {v : Value} {l : List Mt} (h : NsM W v l) : Kp (fun W' => NsM W' v l) W := fun W' f => h.non f
set_option maxHeartbeats 8000000 in
theorem MountsKeep_c (v : Value) (l : List Mt) (p : Bs) (to ep : Int) (dir : Bs) (w : World) (hv : NsM w v l) (hn : l.length ≤ 140737488355328) (hep : -9223372036854775808 ≤ ep ∧ ep ≤ 9223372036854775807) :
    Calls Try.prog 3 #[v, .string (B p), .int .i64 to, .int .i64 ep, .string (B dir)] w fun e w' => e = .returned (.bool true) ∧ Fp Non w w' := by
  have hgr := fun W (f : Fp Non w W) => Great_c v l W (hv.non f) hn
  have hrr := fun W (f : Fp Non w W) (h : SzM l) => rRightM_c v l W (hv.non f) h.p hn
  have hrp := fun W (hp : dir.length ≤ 1000000) => rRight_g dir W (sz_of hp (by omega))
  have hro := fun W (f : Fp Non w W) (h : SzM l) (hp : dir.length ≤ 1000000) => rOf_c v l dir W (hv.non f) h hp
  have hbg := fun W (f : Fp Non w W) (h : SzM l) (hp : p.length ≤ 1000000) => Begin_c v l p to W (hv.non f) h hp
  have hfl := fun W (f : Fp Non w W) (h : SzM l) (hp : p.length ≤ 1000000) => Flip_c v l p ep to W (hv.non f) h hp hep
  obtain ⟨ao, cap, rfl⟩ := hv.shape
  have hat := fun W (f : Fp Non w W) i (h : i < l.length) => (show ∃ g o, ao = some ⟨g, o, none⟩ ∧ NdAtM W g (o + i * 4) l[i] from by
    obtain ⟨g, o, cap', e, _, _, _, hcell⟩ := (hv.non f).at (by omega)
    injection e with e1 _ _
    exact ⟨g, o, e1, hcell i h⟩)
  have hbw := bgW l p to
  obtain ⟨r, hr⟩ : ∃ r, bgn l p to = r := ⟨_, rfl⟩
  rw [hr] at hbw hbg
  have hkb := fun h0 hd k u hu => keep_begin (d := dir) (k := k) (w := u) hbw h0 hd hu
  have hkf := fun h0 hd k u hu => keep_flip (l := l) (p := p) (ep := ep) (to := to) (d := dir) (k := k) (w := u) h0 hd hu
  obtain ⟨fl, hfl2⟩ : ∃ r, flp l p ep to = r := ⟨_, rfl⟩
  rw [hfl2] at hfl hkf
  obtain ⟨n, hnn⟩ : ∃ n, n = l.length := ⟨_, rfl⟩
  rw [← hnn] at hgr hrr hro hbg hfl
  rw [← hnn]
  have HAT := Lib.hid (And.intro hnn hat)
  have HG := Lib.hid hgr
  have HRR := Lib.hid hrr
  have HRP := Lib.hid hrp
  have HRO := Lib.hid hro
  have HBG := Lib.hid hbg
  have HFL := Lib.hid hfl
  have HKB := Lib.hid hkb
  have HKF := Lib.hid hkf
  clear hgr hrr hrp hro hbg hfl hkb hkf hat hv hn hnn hr hfl2 hbw hep
  go_enter Try.func3, Try.ntmps3
  go_wp2_with fail
  refine (head_c _).mono ?_
  rintro e w1 ⟨rfl, hf1⟩
  have F1 := Lib.hid hf1
  clear hf1
  go_wp2_with fail
  refine (HG.out _ F1.out).mono ?_
  rintro e w2 ⟨gr, rfl, hg, hf2⟩
  have F2 := Lib.hid (F1.out.then hf2)
  clear hf2 F1
  cases gr with
  | true =>
    clear hg
    go_wp2
    go_ret
    exact ⟨rfl, F2.out⟩
  | false =>
  have FEW := Lib.hid (hg rfl)
  clear hg
  by_cases hp0 : 1000 < p.length
  · have q10 : ((1000 : Int) < (p.length : Int)) = True := eq_true (by omega)
    have q20 : (1000 < p.length) = True := eq_true hp0
    clear hp0
    go_wp2
    go_ret
    exact ⟨rfl, F2.out⟩
  have q10 : ((1000 : Int) < (p.length : Int)) = False := eq_false (by omega)
  have q20 : (1000 < p.length) = False := eq_false hp0
  have HPB0 := Lib.hid (show p.length ≤ 1000000 by omega)
  clear hp0
  by_cases hp1 : 1000 < dir.length
  · have q11 : ((1000 : Int) < (dir.length : Int)) = True := eq_true (by omega)
    have q21 : (1000 < dir.length) = True := eq_true hp1
    clear hp1
    go_wp2
    go_ret
    exact ⟨rfl, F2.out⟩
  have q11 : ((1000 : Int) < (dir.length : Int)) = False := eq_false (by omega)
  have q21 : (1000 < dir.length) = False := eq_false hp1
  have HPB1 := Lib.hid (show dir.length ≤ 1000000 by omega)
  clear hp1
  go_wp2_with fail
  refine (HRR.out _ F2.out FEW.out.szs).mono ?_
  rintro e w3 ⟨rfl, hf⟩
  have F3 := Lib.hid (F2.out.then hf)
  clear hf
  cases hrt : rightM l with
  | false =>
    clear hrt
    go_wp2
    go_ret
    exact ⟨rfl, F3.out⟩
  | true =>
  have hrt := (right_iff l).1 hrt
  go_wp2_with fail
  refine (HRP.out _ HPB1.out).mono ?_
  rintro e w4 ⟨rfl, hg⟩
  have F4 := Lib.hid (F3.out.then hg.fp)
  clear hg F2 F3
  cases hok : (split dir).isSome with
  | false =>
    clear hok
    go_wp2
    go_ret
    exact ⟨rfl, F4.out⟩
  | true =>
  obtain ⟨k, u, hp⟩ := pkM hrt (d := dir) hok
  have HP := Lib.hid hp
  have HRT := Lib.hid hrt
  have hkb := fun h0 => HKB.out h0 hok k u hp
  have hkf := fun h0 => HKF.out h0 hok k u hp
  have HKB2 := Lib.hid hkb
  have HKF2 := Lib.hid hkf
  clear hok hrt hp hkb hkf HKB HKF
  go_wp2_with fail
  refine (HBG.out _ F4.out FEW.out.szs HPB0.out).mono ?_
  intro e w5 hR
  obtain ⟨v1, rfl, n1⟩ := hR.ex
  unfold mtV strV
  have hfa := fp_alloc w5 (.cells #[.string (B r.m.d), .int .i64 r.m.g, .int .i64 r.m.e, .int .i64 r.m.t] TM)
  have K5 := Lib.hid (Kp.and (Kp.nsM2 (n1.non hfa)) (Kp.fp ((F4.out.then hR.fp).then hfa)))
  clear hR n1 hfa F4
  go_wp2_with fail
  refine (HFL.out _ K5.out.now.2 FEW.out.szs HPB0.out).mono ?_
  intro e w6 hR
  obtain ⟨v2, rfl, n2⟩ := hR.ex
  have K6 := Lib.hid (Kp.and (Kp.nsM2 n2) (K5.out.later hR.fp))
  have hro := HRO.out _ K6.out.now.2.2 FEW.out.szs HPB1.out
  rw [HP.out.ko] at hro
  have hkl := HP.out.kl
  have hlen := HRT.out.len
  rw [← HAT.out.1] at hlen
  have hkn : k < n := by rw [HAT.out.1]; exact hkl
  have q3 : ((k : Int) < (n : Int)) = True := eq_true (by omega)
  have q4 : (k < n) = True := eq_true hkn
  have hkb : k ≤ 1000 := by omega
  clear hR n2 K5 HBG HFL
  go_wp2_with fail
  refine hro.mono ?_
  rintro e w7 ⟨rfl, hf⟩
  simp only [idx]
  have K7 := Lib.hid (K6.out.later hf)
  obtain ⟨g, o, e, hnd⟩ := HAT.out.2 _ K7.out.now.2.2 k hkl
  subst e
  rw [← HP.out.get] at hnd
  have d0 := hnd.c0; have d1 := hnd.c1; have d2 := hnd.c2; have d3 := hnd.c3
  unfold strV at d0
  have hbx := BxM.new w7 u
  have K8 := Lib.hid (Kp.and (Kp.bxM hbx) (K7.out.later (fp_alloc w7 (.cells #[.string (B u.d), .int .i64 u.g, .int .i64 u.e, .int .i64 u.t] TM))))
  clear hnd hro K6 hf hkl hbx hkn K7
  by_cases h0 : r.e = 0
  · have q5 : (r.e == 0) = true := beq_iff_eq.2 h0
    have q6 : (r.e = 0) = True := eq_true h0
    obtain ⟨hrtm, ka, y, hy, hyg⟩ := HKB2.out h0
    have hof := fun W (h : NsM W v1 r.l) => OfM_c v1 r.l dir W h hrtm.szs HPB1.out
    have hri := fun W (h : NsM W v1 r.l) => rRightM_c v1 r.l W h hrtm.szs.p (by have := hrtm.len; omega)
    rw [hy.ko] at hof
    rw [(right_iff r.l).2 hrtm] at hri
    obtain ⟨g1, o1, c1, hv1, _, _, _, hcell⟩ := K8.out.now.2.2.1.at (by have := hy.kl; omega)
    subst hv1
    obtain ⟨n1, hn1⟩ : ∃ n1, n1 = r.l.length := ⟨_, rfl⟩
    have hna := hcell ka hy.kl
    rw [← hy.get] at hna
    have hka : ka < n1 := by rw [hn1]; exact hy.kl
    have hl1 := hrtm.len
    rw [← hn1] at hof hri hl1 ⊢
    rw [← hn1] at K8
    have q7 : ((ka : Int) < 0) = False := eq_false (by omega)
    have q8 : ((n1 : Int) ≤ (ka : Int)) = False := eq_false (by omega)
    have q9 : (n1 ≤ ka) = False := eq_false (by omega)
    have q10 : ((ka : Int) < (n1 : Int)) = True := eq_true (by omega)
    have q11 : (ka < n1) = True := eq_true hka
    have q12 : (y.g == u.g) = true := beq_iff_eq.2 hyg
    have q13 : (y.g = u.g) = True := eq_true hyg
    have q14 : (y.g != u.g) = false := by simp [bne, q12]
    have HOF := Lib.hid hof
    have HRI := Lib.hid hri
    have HNA := Lib.hid hna
    have hkab : ka ≤ 1000 := by omega
    clear hof hri hcell hna hka hrtm hy hyg hn1 h0
    go_wp2_with fail
    refine (HOF.out _ K8.out.now.2.2.1).mono ?_
    rintro e w9 ⟨rfl, hf⟩
    simp only [idx]
    have hg1 := (HNA.out.keep hf (fun h => h)).c1
    have K9 := Lib.hid (K8.out.later hf)
    have hg2 := K9.out.now.1.at.2.1
    have HC := Lib.hid (And.intro hg1 hg2)
    clear hf HOF hg1 hg2 HNA d0 d1 d2 d3
    go_wp2_with fail
    have KD := Lib.hid (K9.out.later ((Fp.refl Non w9).drew))
    have HCD := Lib.hid (And.intro (((Fp.refl Non w9).drew).cell HC.out.1 (fun h => h)) (((Fp.refl Non w9).drew).cell HC.out.2 (fun h => h)))
    refine wp_region_held_drew (S := (fun w' => w'.cell? ⟨g1, o1 + ka * 4 + 1, none⟩ = some (.int .i64 y.g) ∧ w'.cell? ⟨w7.heap.size, 1, none⟩ = some (.int .i64 u.g))) (by kernel_rfl) ?_ (fun hHeld => ?_)
    · exact HCD.out
    try simp only [zP, zN, zS, zT, zU]
    refine tk 0 hHeld ?_
    refine rY 1 (fun K hK => ?_)
    go_simp
    go_at_call 10
    refine (HRI.out _ KD.out.now.2.2.1).mono ?_
    rintro e wa ⟨rfl, f1⟩
    have HS1 := Lib.hid (And.intro (f1.cell HCD.out.1 (fun h => h)) (f1.cell HCD.out.2 (fun h => h)))
    have Ka := Lib.hid (KD.out.later f1)
    clear f1
    go_wp2_with fail
    refine hK.out _ _ HS1.out (fun hHeld => ?_)
    clear hK K
    try simp only [zP, zN, zS, zT, zU]
    refine tk 2 hHeld ?_
    refine tk 3 hHeld ?_
    refine tk 4 hHeld ?_
    refine tk 5 hHeld ?_
    refine tk 6 hHeld ?_
    refine tk 7 hHeld ?_
    refine tk 8 hHeld ?_
    refine tk 9 hHeld ?_
    refine tk 10 hHeld ?_
    refine tk 11 hHeld ?_
    refine tk 12 hHeld ?_
    refine tk 13 hHeld ?_
    refine tk 14 hHeld ?_
    refine tk 15 hHeld ?_
    refine tk 16 hHeld ?_
    refine tk 17 hHeld ?_
    refine tk 18 hHeld ?_
    refine tk 19 hHeld ?_
    refine tk 20 hHeld ?_
    refine tk 21 hHeld ?_
    refine tk 22 hHeld ?_
    refine yD ?_
    by_cases hf0 : fl.e = 0
    · have p5 : (fl.e == 0) = true := beq_iff_eq.2 hf0
      have p6 : (fl.e = 0) = True := eq_true hf0
      obtain ⟨hrtf, kb, z, hz, hzd, hzn, hzt⟩ := HKF2.out hf0
      have hof := fun W (h : NsM W v2 fl.l) => OfM_c v2 fl.l dir W h hrtf.szs HPB1.out
      have hri := fun W (h : NsM W v2 fl.l) => rRightM_c v2 fl.l W h hrtf.szs.p (by have := hrtf.len; omega)
      rw [hz.ko] at hof
      rw [(right_iff fl.l).2 hrtf] at hri
      obtain ⟨g2, o2, c2, hv2, _, _, _, hcell⟩ := Ka.out.now.2.1.at (by have := hz.kl; omega)
      subst hv2
      obtain ⟨n2, hn2⟩ : ∃ n2, n2 = fl.l.length := ⟨_, rfl⟩
      have hna := hcell kb hz.kl
      rw [← hz.get] at hna
      have hkb2 : kb < n2 := by rw [hn2]; exact hz.kl
      have hl2 := hrtf.len
      rw [← hn2] at hof hri hl2 ⊢
      rw [← hn2] at Ka
      have p7 : ((kb : Int) < 0) = False := eq_false (by omega)
      have p8 : ((n2 : Int) ≤ (kb : Int)) = False := eq_false (by omega)
      have p9 : (n2 ≤ kb) = False := eq_false (by omega)
      have p10 : ((kb : Int) < (n2 : Int)) = True := eq_true (by omega)
      have p11 : (kb < n2) = True := eq_true hkb2
      have p12 : (z.d == u.d) = true := beq_iff_eq.2 hzd
      have p13 : (z.d = u.d) = True := eq_true hzd
      have HOF2 := Lib.hid hof
      have HRI2 := Lib.hid hri
      have HNA2 := Lib.hid hna
      have HZ := Lib.hid (And.intro hzn hzt)
      have hkbb : kb ≤ 1000 := by omega
      clear hof hri hcell hna hkb2 hrtf hz hzd hzn hzt hn2 hf0
      go_wp2_with fail
      refine (HOF2.out _ Ka.out.now.2.1).mono ?_
      rintro e wb ⟨rfl, hf⟩
      simp only [idx]
      have KB := Lib.hid (Ka.out.later hf)
      have HNB := Lib.hid (HNA2.out.keep hf (fun h => h))
      clear hf
      go_wp2_with fail
      refine (HRI2.out _ KB.out.now.2.1).mono ?_
      rintro e wc ⟨rfl, hf⟩
      have KC := Lib.hid (KB.out.later hf)
      have hnd := HNB.out.keep hf (fun h => h)
      have e0 := hnd.c0; have e1 := hnd.c1; have e2 := hnd.c2; have e3 := hnd.c3
      unfold strV at e0
      have hbx := KC.out.now.1.at
      have x0 := hbx.1; have x1 := hbx.2.1; have x2 := hbx.2.2.1; have x3 := hbx.2.2.2
      have heq := eq_mts
      clear hf hnd hbx
      by_cases hup : u.d = p
      · have p14 : (u.d == p) = true := beq_iff_eq.2 hup
        have p15 : (u.d = p) = True := eq_true hup
        have p16 : (u.d != p) = false := by simp [bne, p14]
        have hg := HZ.out.2 hup
        have p17 : (z.g == to) = true := beq_iff_eq.2 hg
        have p18 : (z.g = to) = True := eq_true hg
        have p19 : (z.g != to) = false := by simp [bne, p17]
        clear hup hg
        go_wp2_with fail
        go_quiet (fail)
        go_wp2
        go_ret
        exact ⟨rfl, KC.out.now.2.2.2.drewN _⟩
      · have p14 : (u.d == p) = false := beq_eq_false_iff_ne.2 hup
        have p15 : (u.d = p) = False := eq_false hup
        have p16 : (u.d != p) = true := by simp [bne, p14]
        have p17 : decide (z = u) = true := decide_eq_true (HZ.out.1 hup)
        have p18 : (z = u) = True := eq_true (HZ.out.1 hup)
        clear hup
        go_wp2_with fail
        go_quiet (fail)
        go_wp2
        go_ret
        exact ⟨rfl, KC.out.now.2.2.2.drewN _⟩
    · have p5 : (fl.e == 0) = false := beq_eq_false_iff_ne.2 hf0
      have p6 : (fl.e = 0) = False := eq_false hf0
      clear hf0
      go_wp2
      go_ret
      exact ⟨rfl, Ka.out.now.2.2.2⟩
  · have q5 : (r.e == 0) = false := beq_eq_false_iff_ne.2 h0
    have q6 : (r.e = 0) = False := eq_false h0
    clear h0
    by_cases hf0 : fl.e = 0
    · have p5 : (fl.e == 0) = true := beq_iff_eq.2 hf0
      have p6 : (fl.e = 0) = True := eq_true hf0
      obtain ⟨hrtf, kb, z, hz, hzd, hzn, hzt⟩ := HKF2.out hf0
      have hof := fun W (h : NsM W v2 fl.l) => OfM_c v2 fl.l dir W h hrtf.szs HPB1.out
      have hri := fun W (h : NsM W v2 fl.l) => rRightM_c v2 fl.l W h hrtf.szs.p (by have := hrtf.len; omega)
      rw [hz.ko] at hof
      rw [(right_iff fl.l).2 hrtf] at hri
      obtain ⟨g2, o2, c2, hv2, _, _, _, hcell⟩ := K8.out.now.2.1.at (by have := hz.kl; omega)
      subst hv2
      obtain ⟨n2, hn2⟩ : ∃ n2, n2 = fl.l.length := ⟨_, rfl⟩
      have hna := hcell kb hz.kl
      rw [← hz.get] at hna
      have hkb2 : kb < n2 := by rw [hn2]; exact hz.kl
      have hl2 := hrtf.len
      rw [← hn2] at hof hri hl2 ⊢
      rw [← hn2] at K8
      have p7 : ((kb : Int) < 0) = False := eq_false (by omega)
      have p8 : ((n2 : Int) ≤ (kb : Int)) = False := eq_false (by omega)
      have p9 : (n2 ≤ kb) = False := eq_false (by omega)
      have p10 : ((kb : Int) < (n2 : Int)) = True := eq_true (by omega)
      have p11 : (kb < n2) = True := eq_true hkb2
      have p12 : (z.d == u.d) = true := beq_iff_eq.2 hzd
      have p13 : (z.d = u.d) = True := eq_true hzd
      have HOF2 := Lib.hid hof
      have HRI2 := Lib.hid hri
      have HNA2 := Lib.hid hna
      have HZ := Lib.hid (And.intro hzn hzt)
      have hkbb : kb ≤ 1000 := by omega
      clear hof hri hcell hna hkb2 hrtf hz hzd hzn hzt hn2 hf0
      go_wp2_with fail
      refine (HOF2.out _ K8.out.now.2.1).mono ?_
      rintro e wb ⟨rfl, hf⟩
      simp only [idx]
      have KB := Lib.hid (K8.out.later hf)
      have HNB := Lib.hid (HNA2.out.keep hf (fun h => h))
      clear hf d0 d1 d2 d3
      go_wp2_with fail
      refine (HRI2.out _ KB.out.now.2.1).mono ?_
      rintro e wc ⟨rfl, hf⟩
      have KC := Lib.hid (KB.out.later hf)
      have hnd := HNB.out.keep hf (fun h => h)
      have e0 := hnd.c0; have e1 := hnd.c1; have e2 := hnd.c2; have e3 := hnd.c3
      unfold strV at e0
      have hbx := KC.out.now.1.at
      have x0 := hbx.1; have x1 := hbx.2.1; have x2 := hbx.2.2.1; have x3 := hbx.2.2.2
      have heq := eq_mts
      clear hf hnd hbx
      by_cases hup : u.d = p
      · have p14 : (u.d == p) = true := beq_iff_eq.2 hup
        have p15 : (u.d = p) = True := eq_true hup
        have p16 : (u.d != p) = false := by simp [bne, p14]
        have hg := HZ.out.2 hup
        have p17 : (z.g == to) = true := beq_iff_eq.2 hg
        have p18 : (z.g = to) = True := eq_true hg
        have p19 : (z.g != to) = false := by simp [bne, p17]
        clear hup hg
        go_wp2_with fail
        go_quiet (fail)
        go_wp2
        go_ret
        exact ⟨rfl, KC.out.now.2.2.2.drewN _⟩
      · have p14 : (u.d == p) = false := beq_eq_false_iff_ne.2 hup
        have p15 : (u.d = p) = False := eq_false hup
        have p16 : (u.d != p) = true := by simp [bne, p14]
        have p17 : decide (z = u) = true := decide_eq_true (HZ.out.1 hup)
        have p18 : (z = u) = True := eq_true (HZ.out.1 hup)
        clear hup
        go_wp2_with fail
        go_quiet (fail)
        go_wp2
        go_ret
        exact ⟨rfl, KC.out.now.2.2.2.drewN _⟩
    · have p5 : (fl.e == 0) = false := beq_eq_false_iff_ne.2 hf0
      have p6 : (fl.e = 0) = False := eq_false hf0
      clear hf0
      go_wp2
      go_ret
      exact ⟨rfl, K8.out.now.2.2.2⟩
end Go.Proofs.Ytajgjhkienhpjaa
