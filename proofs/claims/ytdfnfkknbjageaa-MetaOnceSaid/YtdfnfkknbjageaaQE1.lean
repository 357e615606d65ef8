/- MetaOnce (gen_e1.py) -/
import Derived.Test.YtdfnfkknbjageaaZT
set_option linter.unusedVariables false
set_option linter.unusedSimpArgs false
namespace Go.Proofs.Ytdfnfkknbjageaa
set_option maxRecDepth 20000
set_option linter.unusedVariables false
set_option linter.unusedSimpArgs false
open Go.RowKit Pm


set_option maxHeartbeats 16000000 in
theorem MetaOnce_c (v : Value) (l : List Mt) (p : Bs) (tt often : Int) (w : World) (hv : NsM w v l) (hs : SzM l) (hp : p.length ≤ 140737488355328) (ho : 0 ≤ often ∧ often ≤ 255) :
    Calls Try.prog 6 #[v, .string (B p), .int .i64 tt, .int .u8 often] w fun e w' => e = .returned (.bool true) ∧ Fp Non w w' := by
  have hnew := fun W (f : Fp Non w W) => NewM_c v l W (hv.non f) hs
  have hg := fun W (f : Fp Non w W) => greatM_c v (.slice none 0 0) l [] W (hv.non f) hs.n (CdsW.nil W) (by simp) (fun _ h => by cases h)
  obtain ⟨ao, cap, rfl⟩ := hv.shape
  obtain ⟨n, hn⟩ : ∃ n, n = l.length := ⟨_, rfl⟩
  rw [← hn] at hnew hg ⊢
  have HNEW := Lib.hid hnew
  have HG := Lib.hid hg
  have HO := Lib.hid ho
  have HP := Lib.hid hp
  clear hnew hg hv hs hn hp
  go_enter Try.func6, Try.ntmps6
  go_wp2_with fail
  refine (headM_c _).mono ?_
  rintro e w1 ⟨rfl, hf1⟩
  have F1 := Lib.hid hf1
  clear hf1
  go_wp2_with fail
  refine (HNEW.out _ F1.out).mono ?_
  intro e w2 hR
  have F2 := Lib.hid (F1.out.then hR.fp)
  rcases hR.way with ⟨hr, rfl⟩ | ⟨hr, q, rfl, hM, hq⟩
  · clear hR hr
    go_wp2
    go_ret
    exact ⟨rfl, F2.out⟩
  have HRT := Lib.hid ((right_ifft l).1 hr)
  have HM := Lib.hid hM
  have HQ := Lib.hid (show w.heap.size ≤ q from Nat.le_trans F1.out.size hq)
  clear hR hr hM hq F1
  go_wp2_with fail
  refine (HG.out _ F2.out).mono ?_
  rintro e w3 ⟨⟨g, rfl⟩, hf⟩
  have F3 := Lib.hid (F2.out.then hf)
  have HM := Lib.hid (HM.out.non hf)
  clear hf F2
  cases g with
  | true =>
    go_wp2
    go_ret
    exact ⟨rfl, F3.out⟩
  | false =>
  by_cases hp0 : 1000 < p.length
  · have q10 : ((1000 : Int) < (p.length : Int)) = True := eq_true (by omega)
    have q20 : (1000 < p.length) = True := eq_true hp0
    clear hp0
    go_wp2
    go_ret
    exact ⟨rfl, F3.out⟩
  have q10 : ((1000 : Int) < (p.length : Int)) = False := eq_false (by omega)
  have q20 : (1000 < p.length) = False := eq_false hp0
  have HPB0 := Lib.hid (show p.length ≤ 140737488355328 by omega)
  clear hp0
  have hdo := doL_c q l 11 p 0 tt w3 HM.out HRT.out HP.out
  rw [doM_begin] at hdo
  have hbw := bgW l p tt
  have hyes := bgM_yes (l := l) (p := p) (tt := tt)
  have hno := bgM_no (l := l) (p := p) (tt := tt)
  obtain ⟨r, hr⟩ : ∃ r, bgn l p tt = r := ⟨_, rfl⟩
  rw [hr] at hbw hyes hno
  clear hr
  rcases Decidable.em (r.e ≠ 0) with h0 | h0
  · rw [hno h0] at hdo
    have q5 : (r.e == 0) = false := beq_eq_false_iff_ne.2 h0
    have q6 : (r.e = 0) = False := eq_false h0
    have q7 : (r.e != 0) = true := by simp [bne, q5]
    have HDO := Lib.hid hdo
    clear hdo hyes hno hbw h0
    go_wp2_with fail
    refine HDO.out.mono ?_
    intro e w4 hR
    obtain ⟨v4, rfl, hN⟩ := hR.ex
    obtain ⟨a4, c4, rfl⟩ : ∃ a c, v4 = Value.slice a 0 c := by obtain ⟨a, c, e⟩ := hN.shape; exact ⟨a, c, e⟩
    have HF := Lib.hid ((KQ.fp F3.out HQ.out).later hR.fp)
    have fa := fp_alloc w4 (.cells (anL r.e (.slice a4 0 c4)) TAN)
    have HF := Lib.hid (HF.out.non fa)
    have x0 := (boxA (heap_alloc_new w4 (.cells (anL r.e (.slice a4 0 c4)) TAN))).1
    clear hR hN fa
    go_wp2_with (refine wpList_stC rfl TAN _ _ rfl _ _ rfl rfl (stn_any stAN _ rfl rfl (anL_one ⟨_, _, _, rfl⟩)) ?_)
    go_ret
    exact ⟨rfl, HF.out.now⟩
  rw [Decidable.not_not] at h0
  have hB := beg hbw h0
  rw [hyes h0] at hdo
  obtain ⟨m, hm⟩ : ∃ m, m = r.l := ⟨_, rfl⟩
  obtain ⟨x, hx⟩ : ∃ x, x = r.m := ⟨_, rfl⟩
  rw [← hm, ← hx] at hB hdo
  obtain ⟨ms, hms⟩ : ∃ ms, ms = x :: below m x.d := ⟨_, rfl⟩
  rw [← hms] at hdo
  have hlen : ∃ k, ms.length = k + 1 ∧ k ≤ 100 := ⟨(below m x.d).length, by rw [hms]; rfl, Nat.le_trans (below_len m x.d) (by have := hB.rt.len; omega)⟩
  obtain ⟨k, hk, hkb⟩ := hlen
  have HDO := Lib.hid hdo
  have HB := Lib.hid hB
  have HMS := Lib.hid (And.intro hms (And.intro hk hkb))
  clear hdo hyes hno hbw h0 hB hm hx hms hk
  go_wp2_with fail
  refine HDO.out.mono ?_
  intro e w4 hR
  obtain ⟨v4, rfl, hN⟩ := hR.ex
  have H4 := Lib.hid (KQ.and (KQ.fp F3.out HQ.out) (KQ.fp F3.out HQ.out) |>.later hR.fp)
  have M4 := Lib.hid hR.me
  obtain ⟨g, o, c4, hv4, _, _, _, hcell⟩ := hN.at (by rw [HMS.out.2.1]; omega)
  rw [HMS.out.2.1] at hv4
  subst hv4
  obtain ⟨R4, hR4⟩ : ∃ R, R = Obj.cells (anL 0 (.slice (some ⟨g, o, none⟩) (k + 1) c4)) TAN := ⟨_, rfl⟩
  have fa := fp_alloc w4 (.cells (anL 0 (.slice (some ⟨g, o, none⟩) (k + 1) c4)) TAN)
  have hrow := heap_alloc_new w4 (.cells (anL 0 (.slice (some ⟨g, o, none⟩) (k + 1) c4)) TAN)
  have hms0 : ms[0]'(by rw [HMS.out.2.1]; omega) = x := by
    have := HMS.out.1
    subst this; rfl
  have hnd := (hcell 0 (by rw [HMS.out.2.1]; omega)).keep fa (fun h => h)
  rw [hms0] at hnd
  have HC := Lib.hid (And.intro hrow (And.intro hnd (And.intro (hN.non fa) (And.intro (H4.out.now.1.then fa) (And.intro (M4.out.non fa) M4.out.lt)))))
  have x0 := (boxA hrow).1
  have x8 := (boxA hrow).2.2.2.2.2.2.2.2.1
  have y2 := hnd.c2
  simp only [Nat.zero_mul, Nat.add_zero] at y2
  have q20 : (((k + 1 : Nat) : Int) < 1) = False := eq_false (by omega)
  have q21 : ((1 : Int) ≤ ((k + 1 : Nat) : Int)) = True := eq_true (by omega)
  clear hR hN hcell fa hrow hms0 hnd hR4 R4
  rcases Decidable.em (x.e < 281474976710656) with he | he
  · have q22 : ((281474976710656 : Int) ≤ x.e) = False := eq_false (by omega)
    have q23 : (x.e < 281474976710656) = True := eq_true he
    have HE := Lib.hid he
    clear he
    go_wp2_with (refine wpList_stC rfl TAN _ _ rfl _ _ rfl rfl (stn_any stAN _ rfl rfl (anL_one ⟨_, _, _, rfl⟩)) ?_)
    clear x0 x8 y2 q20 q21 q22 q23
    have hbq : w4.heap.size ≠ q := by have := HC.out.2.2.2.2.2; omega
    refine (Mounts_c q m _ HC.out.2.2.2.2.1 (by have := HB.out.rt.len; omega)).mono ?_
    rintro e w5 ⟨vw, rfl, hO⟩
    have HI := Lib.hid (show O1 w q w4.heap.size m ms m (.slice (some ⟨g, o, none⟩) (k + 1) c4) vw w5 from ⟨HC.out.2.2.2.1.then hO.fp, hO.fp.heap HC.out.1 (fun h => h), HC.out.2.2.1.non hO.fp, hO.own.ns, HC.out.2.2.2.2.1.non hO.fp⟩)
    have HND := Lib.hid (fun V (h : O1 w q w4.heap.size m ms m (.slice (some ⟨g, o, none⟩) (k + 1) c4) vw V) => (show NdAtM V g o x from by
      obtain ⟨g', o', c', e, _, _, _, hc⟩ := h.ns.at (by rw [HMS.out.2.1]; omega)
      injection e with e1 e2 e3
      injection e1 with e1
      injection e1 with e1 e4 e5
      subst e1 e4
      have h0 := hc 0 (by rw [HMS.out.2.1]; omega)
      have hms0 : ms[0]'(by rw [HMS.out.2.1]; omega) = x := by
        have := HMS.out.1
        subst this; rfl
      rw [hms0] at h0
      simp only [Nat.zero_mul, Nat.add_zero] at h0
      exact h0))
    obtain ⟨aw, cw, hvw⟩ := hO.own.ns.shape
    obtain ⟨nm, hnm⟩ : ∃ n, n = m.length := ⟨_, rfl⟩
    rw [← hnm] at hvw
    subst hvw
    have HNM := Lib.hid hnm
    obtain ⟨b, hb⟩ : ∃ b, b = w4.heap.size := ⟨_, rfl⟩
    rw [← hb] at HI HND hbq ⊢
    have HBQ := Lib.hid hbq
    clear hO hnm hb hbq HC M4 H4 HDO
    obtain ⟨z, hz4, hz⟩ := wrap_rem often HO.out
    go_wp2_with fail
    go_loopw [13] (fun i wr => ∃ j : Nat, j ≤ z ∧ i = .int .i64 j ∧ Hid (O1 w q b m ms m (.slice (some ⟨g, o, none⟩) (k + 1) c4) (.slice aw nm cw) wr)) (fun i _ => z - (RowKit.intOf i).toNat)
    case atStart => exact ⟨0, Nat.zero_le _, rfl, HI⟩
    case round =>
      obtain ⟨j, hj, rfl, hI⟩ := hrel
      rename World => wr
      by_cases hlt : j < z
      · have q30 : ((j : Int) < (z : Int)) = True := eq_true (by omega)
        have q31 : (j < z) = True := eq_true hlt
        have hdo := doL_c q m 11 p 0 tt wr hI.out.me HB.out.rt HP.out
        rw [doM_begin, show bgM m p tt = (m, 0, ms) from by rw [bgM_yes (by rw [HB.out.twice]), HB.out.twice, HMS.out.1]] at hdo
        have HDO := Lib.hid hdo
        have HL := Lib.hid (And.intro hlt hj)
        clear hdo hlt hj
        go_wp2_with fail
        refine HDO.out.mono ?_
        intro e w6 hR
        obtain ⟨v6, rfl, hN⟩ := hR.ex
        have I6 := Lib.hid (hI.out.later hR.fp hR.me HBQ.out HQ.out)
        obtain ⟨a6, c6, rfl⟩ : ∃ a c, v6 = Value.slice a (k + 1) c := by obtain ⟨a, c, e⟩ := hN.shape; rw [HMS.out.2.1] at e; exact ⟨a, c, e⟩
        have N6 := Lib.hid hN
        clear hR hN HDO
        have fa := fp_alloc w6 (.cells (anL 0 (.slice a6 (k + 1) c6)) TAN)
        have I7 := Lib.hid (And.intro (I6.out.non fa) (And.intro (N6.out.non fa) (heap_alloc_new w6 (.cells (anL 0 (.slice a6 (k + 1) c6)) TAN))))
        obtain ⟨x0, x1, x2, x3, x4, x5, x6, x7, x8, x9⟩ := boxA (I7.out.1.bx)
        obtain ⟨y0, y1, y2, y3, y4, y5, y6, y7, y8, y9⟩ := boxA (I7.out.2.2)
        clear fa I6 N6
        go_wp2_with (refine wpList_stC rfl TAN _ _ rfl _ _ rfl rfl (stn_any stAN _ rfl rfl (anL_one ⟨_, _, _, rfl⟩)) ?_)
        clear x0 x1 x2 x3 x4 x5 x6 x7 x8 x9 y0 y1 y2 y3 y4 y5 y6 y7 y8 y9
        generalize (World.alloc w6 (.cells (anL 0 (.slice a6 (k + 1) c6)) TAN)) = w7 at *
        refine (sameA_c 0 _ _ ms _ I7.out.1.ns I7.out.2.1 (by have := HMS.out.2; omega)).mono ?_
        rintro e w8 ⟨rfl, hf⟩
        have I8 := Lib.hid (I7.out.1.non hf)
        clear hf I7
        go_wp2_with fail
        refine (Mounts_c q m _ I8.out.me (by have := HB.out.rt.len; omega)).mono ?_
        rintro e w9 ⟨vx, rfl, hO⟩
        have I9 := Lib.hid (And.intro (I8.out.non hO.fp) hO.own.ns)
        obtain ⟨ax, cx, hvx⟩ := hO.own.ns.shape
        rw [← HNM.out] at hvx
        subst hvx
        have hsm := rSameM_c _ _ m m _ I9.out.2 I9.out.1.nw (by have := HB.out.rt.len; omega) (by have := HB.out.rt.len; omega)
        rw [decide_eq_true rfl] at hsm
        have HSM := Lib.hid hsm
        clear hO I8 hsm
        go_wp2_with fail
        refine HSM.out.mono ?_
        rintro e wz ⟨rfl, hf⟩
        have IZ := Lib.hid (I9.out.1.non hf)
        have hj := HL.out
        clear hf I9 HSM
        go_wp2
        go_roundw
        case rel => exact ⟨j + 1, by omega, by go_num, IZ⟩
        case measure => simp [RowKit.intOf]; omega
      · have hje : j = z := by omega
        subst hje
        have q30 : ((j : Int) < (j : Int)) = False := eq_false (by omega)
        clear hlt hj HI
        have x8 := (boxA hI.out.bx).2.2.2.2.2.2.2.2.1
        have y2 := (HND.out wr hI.out).c2
        have fa := fp_alloc wr (.cells #[.int .i64 12, .int .i64 0, .int .i64 0, .int .i64 0, .bool false, .slice none 0 0, .string (B p), .int .i64 x.e, .int .i64 tt, .slice none 0 0, .slice none 0 0, .slice none 0 0, .int .i64 0, .int .i64 0, .string ⟨#[]⟩, .bool false] TCD)
        have hrw := heap_alloc_new wr (.cells #[.int .i64 12, .int .i64 0, .int .i64 0, .int .i64 0, .bool false, .slice none 0 0, .string (B p), .int .i64 x.e, .int .i64 tt, .slice none 0 0, .slice none 0 0, .slice none 0 0, .int .i64 0, .int .i64 0, .string ⟨#[]⟩, .bool false] TCD)
        obtain ⟨k0, k1, k2, k3, k4, k5, k6, k7, k8, k9, k10, k11, k12, k13, k14, k15⟩ := boxC (hrw)
        have q40 : ((0 : Int) < ((k + 1 : Nat) : Int)) = True := eq_true (by omega)
        have q41 : (0 < k + 1) = True := eq_true (Nat.succ_pos k)
        have I1 := Lib.hid (And.intro (hI.out.non fa) hrw)
        have hdo := doL_c q m 12 p x.e tt (World.alloc wr (.cells #[.int .i64 12, .int .i64 0, .int .i64 0, .int .i64 0, .bool false, .slice none 0 0, .string (B p), .int .i64 x.e, .int .i64 tt, .slice none 0 0, .slice none 0 0, .slice none 0 0, .int .i64 0, .int .i64 0, .string ⟨#[]⟩, .bool false] TCD)) I1.out.1.me HB.out.rt HP.out
        rw [doM_flip _ _ _ _ (num_of HB.out.e), flM_first HB.out HE.out] at hdo
        have HDO := Lib.hid hdo
        have HL5 := Lib.hid (show wr.heap.size ≠ q from by have := hI.out.me.lt; omega)
        clear fa hrw hdo
        go_wp2_with (refine wpList_stC rfl TCD _ _ rfl _ _ rfl rfl (stn_any stCD _ rfl rfl (mkC_one _ _ _ _)) ?_)
        clear k0 k1 k2 k3 k4 k5 k6 k7 k8 k9 k10 k11 k12 k13 k14 k15
        clear x8 y2 q40 q41
        obtain ⟨b5, hb5⟩ : ∃ b, b = wr.heap.size := ⟨_, rfl⟩
        rw [← hb5] at I1 HL5 ⊢
        clear hb5
        generalize (World.alloc wr (.cells #[.int .i64 12, .int .i64 0, .int .i64 0, .int .i64 0, .bool false, .slice none 0 0, .string (B p), .int .i64 x.e, .int .i64 tt, .slice none 0 0, .slice none 0 0, .slice none 0 0, .int .i64 0, .int .i64 0, .string ⟨#[]⟩, .bool false] TCD)) = wf at *
        refine HDO.out.mono ?_
        intro e w6 hR
        obtain ⟨v6, rfl, hN⟩ := hR.ex
        obtain ⟨a6, c6, rfl⟩ : ∃ a c, v6 = Value.slice a 0 c := by obtain ⟨a, c, e⟩ := hN.shape; exact ⟨a, c, e⟩
        have hrt2 := HB.out.flipped HE.out
        have I6 := Lib.hid (And.intro (I1.out.1.later hR.fp hR.me HBQ.out HQ.out) (hR.fp.heap I1.out.2 HL5.out))
        clear hR hN HDO I1
        go_wp2_with (refine wpList_stC rfl TAN _ _ rfl _ _ rfl rfl (stn_any stAN _ rfl rfl (anL_one ⟨_, _, _, rfl⟩)) ?_)
        have fa := fp_alloc w6 (.cells (anL 0 (.slice a6 0 c6)) TAN)
        have hrw := heap_alloc_new w6 (.cells (anL 0 (.slice a6 0 c6)) TAN)
        have I7 := Lib.hid (And.intro (I6.out.1.non fa) (And.intro (fa.heap I6.out.2 (fun h => h)) (And.intro hrw (show w6.heap.size ≠ q from by have := I6.out.1.me.lt; omega))))
        obtain ⟨b6, hb6⟩ : ∃ b, b = w6.heap.size := ⟨_, rfl⟩
        rw [← hb6] at I7 ⊢
        clear fa hrw I6 hb6
        generalize (World.alloc w6 (.cells (anL 0 (.slice a6 0 c6)) TAN)) = w7 at *
        have HR2 := Lib.hid hrt2
        obtain ⟨m2, hm2⟩ : ∃ m2, m2 = (putM m ⟨p, tt, x.e + 1, tt⟩) := ⟨_, rfl⟩
        have hag := flM_again HB.out HE.out
        rw [← hm2] at I7 HR2 hag
        have HAG := Lib.hid hag
        clear hrt2 hm2 hag
        refine (Mounts_c q m2 _ I7.out.1.me (by have := HR2.out.1.len; omega)).mono ?_
        rintro e w8 ⟨vn, rfl, hO⟩
        obtain ⟨an, cn, hvn⟩ := hO.own.ns.shape
        obtain ⟨n2, hn2⟩ : ∃ n, n = m2.length := ⟨_, rfl⟩
        rw [← hn2] at hvn
        subst hvn
        have HN2 := Lib.hid hn2
        have HJ := Lib.hid (show O2 w q b5 b6 p x.e tt m2 (.slice a6 0 c6) (.slice an n2 cn) w8 from ⟨I7.out.1.fp.then hO.fp, hO.fp.heap I7.out.2.1 (fun h => h), hO.fp.heap I7.out.2.2.1 (fun h => h), hO.own.ns, I7.out.1.me.non hO.fp⟩)
        have HL6 := Lib.hid I7.out.2.2.2
        clear hO hn2 I7
        go_wp2_with fail
        go_loopw [18] (fun i wr => ∃ i2 : Nat, i2 ≤ j ∧ i = .int .i64 i2 ∧ Hid (O2 w q b5 b6 p x.e tt m2 (.slice a6 0 c6) (.slice an n2 cn) wr)) (fun i _ => j - (RowKit.intOf i).toNat)
        case atStart => exact ⟨0, Nat.zero_le _, rfl, HJ⟩
        case round =>
          obtain ⟨i2, hi2, rfl, hJ⟩ := hrel
          rename World => ws
          by_cases hlt : i2 < j
          · have q30 : ((i2 : Int) < (j : Int)) = True := eq_true (by omega)
            have q31 : (i2 < j) = True := eq_true hlt
            have hdo := doL_c q m2 12 p x.e tt ws hJ.out.me HR2.out.1 HP.out
            rw [doM_flip _ _ _ _ (num_of HB.out.e), HAG.out] at hdo
            have HDO := Lib.hid hdo
            have HL := Lib.hid (And.intro hlt hi2)
            obtain ⟨k0, k1, k2, k3, k4, k5, k6, k7, k8, k9, k10, k11, k12, k13, k14, k15⟩ := boxC (hJ.out.bc)
            clear hdo hlt hi2
            go_wp2_with fail
            clear k0 k1 k2 k3 k4 k5 k6 k7 k8 k9 k10 k11 k12 k13 k14 k15
            refine HDO.out.mono ?_
            intro e wa hR
            obtain ⟨va, rfl, hN⟩ := hR.ex
            obtain ⟨aa, ca, rfl⟩ : ∃ a c, va = Value.slice a 0 c := by obtain ⟨a, c, e⟩ := hN.shape; exact ⟨a, c, e⟩
            have fa := fp_alloc wa (.cells (anL 0 (.slice aa 0 ca)) TAN)
            have x0 := (boxA (heap_alloc_new wa (.cells (anL 0 (.slice aa 0 ca)) TAN))).1
            have JA := Lib.hid ((hJ.out.later (l' := m2) hR.fp hR.me HL5.out HL6.out HQ.out).non fa)
            clear hR hN HDO fa
            go_wp2_with (refine wpList_stC rfl TAN _ _ rfl _ _ rfl rfl (stn_any stAN _ rfl rfl (anL_one ⟨_, _, _, rfl⟩)) ?_)
            clear x0
            generalize (World.alloc wa (.cells (anL 0 (.slice aa 0 ca)) TAN)) = wb at *
            refine (Mounts_c q m2 _ JA.out.me (by have := HR2.out.1.len; omega)).mono ?_
            rintro e wc ⟨vx, rfl, hO⟩
            have JC := Lib.hid (And.intro (JA.out.non hO.fp) hO.own.ns)
            obtain ⟨ax, cx, hvx⟩ := hO.own.ns.shape
            rw [← HN2.out] at hvx
            subst hvx
            have hsm := rSameM_c _ _ m2 m2 _ JC.out.2 JC.out.1.nw (by have := HR2.out.1.len; omega) (by have := HR2.out.1.len; omega)
            rw [decide_eq_true rfl] at hsm
            have HSM := Lib.hid hsm
            clear hO JA hsm
            go_wp2_with fail
            refine HSM.out.mono ?_
            rintro e wd ⟨rfl, hf⟩
            have JD := Lib.hid (JC.out.1.non hf)
            have hj := HL.out
            clear hf JC HSM
            go_wp2
            go_roundw
            case rel => exact ⟨i2 + 1, by omega, by go_num, JD⟩
            case measure => simp [RowKit.intOf]; omega
          · have hje : i2 = j := by omega
            subst hje
            have q30 : ((i2 : Int) < (i2 : Int)) = False := eq_false (by omega)
            have x0 := (boxA hJ.out.bx).1
            clear hlt hi2 HJ
            go_wp2
            go_ret
            exact ⟨rfl, hJ.out.fp⟩
  · have q22 : ((281474976710656 : Int) ≤ x.e) = True := eq_true (by omega)
    have q23 : (x.e < 281474976710656) = False := eq_false he
    clear he hkb
    go_wp2_with (refine wpList_stC rfl TAN _ _ rfl _ _ rfl rfl (stn_any stAN _ rfl rfl (anL_one ⟨_, _, _, rfl⟩)) ?_)
    go_ret
    exact ⟨rfl, HC.out.2.2.2.1⟩
end Go.Proofs.Ytdfnfkknbjageaa
