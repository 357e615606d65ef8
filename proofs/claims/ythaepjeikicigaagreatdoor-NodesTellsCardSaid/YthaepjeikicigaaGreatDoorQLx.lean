/- A text of this proof. -/
import Derived.Test.YthaepjeikicigaaGreatDoorY4
import Derived.Test.YthaepjeikicigaaGreatDoorZT
/- NodesTells, walked. -/
namespace Go.Proofs.YthaepjeikicigaaGreatDoor
set_option linter.unusedSimpArgs false
set_option linter.unusedVariables false
set_option maxRecDepth 20000
set_option linter.unusedVariables false
set_option linter.unusedSimpArgs false
open Go.RowKit Pm
theorem Kp.own {b : Nat} {W : World} {v : Value} {ps : List Bs} (h : Own b W v ps) : Kp (fun W' => Own b W' v ps) W := fun W' f => h.grown' f
theorem same_own {b0 b1 : Nat} {w : World} {n1 n2 : Value} {ps : List Bs} (h1 : Own b0 w n1 ps) (h2 : Own b1 w n2 ps) :
    Calls Tryz.prog 35 #[n1, n2] w fun e w' => e = .returned (.bool true) ∧ Fp Non w w' := by
  match ps, h1, h2 with
  | [], h1, h2 =>
    obtain ⟨a1, c1, rfl⟩ := h1.shape
    obtain ⟨a2, c2, rfl⟩ := h2.shape
    exact rSame0_c a1 a2 c1 c2 w
  | q :: r, h1, h2 =>
    obtain ⟨g1, c1, rfl, _, l1⟩ := h1.lies
    obtain ⟨g2, c2, rfl, _, l2⟩ := h2.lies
    refine (rSame_c g1 c1 g2 c2 (q :: r) (q :: r) w l1 l2 rfl).mono fun e w' h => ⟨h.1, ?_⟩
    obtain ⟨n, rfl⟩ := h.2
    exact (Fp.refl _ _).drewN n
theorem apply_len (l : List Nd) (o : Opn) : (apply l o).1.length ≤ 1000000 := by
  by_cases h : right l = true ∧ may o = true
  · have hT := ((right_iff l).1 h.1).tr
    rw [apply_yes hT h.2]; exact (tr_few (perform_tr hT h.2)).1
  · rw [apply_no h]; simp
set_option maxHeartbeats 16000000 in
theorem NodesTells_c (v : Value) (l : List Nd) (o : Opn) (w : World) (hv : Ns w v l) (hn : l.length ≤ 140737488355328) (ht : Tab w) :
    Calls Tryz.prog 3 #[v, opV o] w fun e w' => e = .returned (.bool true) ∧ Fp Non w w' := by
  obtain ⟨ao, cap, rfl⟩ := hv.shape
  obtain ⟨kk, p, d, vv, ow, t⟩ := o
  unfold opV strV
  simp only
  have hbx := heap_alloc_new w (.cells #[.int .i64 kk, .string (B p), .string (B d), .int .i64 vv, .int .i64 ow, .bool t] TO_)
  have hf0 := fp_alloc w (.cells #[.int .i64 kk, .string (B p), .string (B d), .int .i64 vv, .int .i64 ow, .bool t] TO_)
  have HB0 := Lib.hid hbx
  have K0 := Lib.hid (Kp.and (Kp.fp hf0) (Kp.and (Kp.ns (hv.non hf0)) (Kp.tab (ht.non hf0))))
  have HN := Lib.hid hn
  have HV := Lib.hid hv
  have HTB := Lib.hid ht
  clear hbx hf0 hv ht hn
  obtain ⟨n, hnn⟩ : ∃ n, n = l.length := ⟨_, rfl⟩
  have HX := Lib.hid hnn
  rw [← hnn]
  clear hnn
  go_enter Tryz.func3, Tryz.ntmps3
  go_wp2_with fail
  refine (head_c _ K0.out.now.2.2).mono ?_
  rintro e w1 ⟨rfl, hf⟩
  have K1 := Lib.hid (Kp.and (Kp.row (hf.heap HB0.out (fun h => h))) (K0.out.later hf))
  clear hf K0 HB0
  obtain ⟨o0, o1, o2, o3, o4, o5⟩ := box6 K1.out.now.1
  have hgr := Great_c _ l w1 K1.out.now.2.2.1 HN.out
  rw [← HX.out] at hgr
  have HGR := Lib.hid hgr
  clear hgr
  go_wp2_with fail
  refine HGR.out.mono ?_
  rintro e w2 ⟨g, rfl, hg, hf⟩
  have K2 := Lib.hid (K1.out.later hf)
  have HG := Lib.hid hg
  clear hf hg K1 HGR o0 o1 o2 o3 o4 o5
  cases g with
  | true =>
    have F2 := Lib.hid K2.out.now.2.1
    clear K2 HG
    go_wp2
    go_ret
    exact ⟨rfl, F2.out⟩
  | false =>
  obtain ⟨o0, o1, o2, o3, o4, o5⟩ := box6 K2.out.now.1
  go_wp2_with fail
  refine (GreatOp_c ⟨kk, p, d, vv, ow, t⟩ w2).mono ?_
  rintro e w3 ⟨g, rfl, hg, hf⟩
  have K3 := Lib.hid (K2.out.later hf)
  have HO := Lib.hid hg
  clear hf hg K2 o0 o1 o2 o3 o4 o5
  cases g with
  | true =>
    have F2 := Lib.hid K3.out.now.2.1
    clear K3 HG HO
    go_wp2
    go_ret
    exact ⟨rfl, F2.out⟩
  | false =>
  obtain ⟨o0, o1, o2, o3, o4, o5⟩ := box6 K3.out.now.1
  have hs := few_sp (by have := HG.out (by first | rfl | trivial); rw [HX.out] at this; exact this)
  have hlm : l.length ≤ 1000000 := by have := (HG.out (by first | rfl | trivial)).1; rw [HX.out] at this; omega
  have hp : p.length ≤ 1000000 := Nat.le_trans (show p.length ≤ 3000 from (HO.out (by first | rfl | trivial)).1) (by omega)
  obtain ⟨A, hA⟩ : ∃ A, (apply l ⟨kk, p, d, vv, ow, t⟩).1 = A := ⟨_, rfl⟩
  obtain ⟨R, hR⟩ : ∃ R, (apply l ⟨kk, p, d, vv, ow, t⟩).2 = R := ⟨_, rfl⟩
  have hAl := apply_len l ⟨kk, p, d, vv, ow, t⟩
  have ha1 := fun w' hv ht => Apply_c (.slice ao l.length cap) l ⟨kk, p, d, vv, ow, t⟩ w' hv hs hp ht
  have ha2 := fun w' hv => rApply_c (.slice ao l.length cap) l ⟨kk, p, d, vv, ow, t⟩ w' hv hs hp
  rw [hA] at hAl
  rw [hA, hR] at ha1 ha2
  obtain ⟨re, rp, rd, rv, rn⟩ := R
  have hf1 := fun w' hv => nFind_c (.slice ao l.length cap) l p w' hv hs hlm
  have hf2 := fun w' hv => rFind_c (.slice ao l.length cap) l p w' hv hlm
  obtain ⟨x, hx⟩ : ∃ x, (find l p).getD zeroNd = x := ⟨_, rfl⟩
  obtain ⟨is, hi⟩ : ∃ b, (find l p).isSome = b := ⟨_, rfl⟩
  rw [hx, hi] at hf1 hf2
  unfold ndV strV at hf1 hf2
  have hr1 := fun w' hv => nRight_c (.slice ao l.length cap) l w' hv hs
  have hr2 := fun w' hv => rRightN_g (.slice ao l.length cap) l w' hv hs
  obtain ⟨br, hbr⟩ : ∃ b, right l = b := ⟨_, rfl⟩
  rw [hbr] at hr1 hr2
  have hm1 := fun w' => May_c ⟨kk, p, d, vv, ow, t⟩ w' hp
  have hm2 := fun w' => rMay_c ⟨kk, p, d, vv, ow, t⟩ w' hp
  obtain ⟨bm, hbm⟩ : ∃ b, may ⟨kk, p, d, vv, ow, t⟩ = b := ⟨_, rfl⟩
  rw [hbm] at hm1 hm2
  unfold opV strV at ha1 ha2 hm1 hm2
  simp only at ha1 ha2 hm1 hm2
  rw [← HX.out] at ha1 ha2 hf1 hf2 hr1 hr2 HV
  have HA1 := Lib.hid ha1
  have HA2 := Lib.hid ha2
  have HF1 := Lib.hid hf1
  have HF2 := Lib.hid hf2
  have HR1 := Lib.hid hr1
  have HR2 := Lib.hid hr2
  have HM1 := Lib.hid hm1
  have HM2 := Lib.hid hm2
  have HAL := Lib.hid hAl
  have K4 := Lib.hid (Kp.and (Kp.row K3.out.now.1) (Kp.and (Kp.fp K3.out.now.2.1) (Kp.and (Kp.ns (HV.out.non K3.out.now.2.1)) (Kp.tab K3.out.now.2.2.2))))
  clear ha1 ha2 hf1 hf2 hr1 hr2 hm1 hm2 hAl hA hR hx hi hbr hbm hs hlm hp HG HO K3
  go_wp2_with fail
  refine (HA1.out _ K4.out.now.2.2.1 K4.out.now.2.2.2).mono ?_
  rintro e w4 hA
  obtain ⟨v1, n1, rfl, hn1, ho1⟩ := hA.ex
  obtain ⟨a1, c1, rfl⟩ := hn1.shape
  obtain ⟨na1, nc1, rfl⟩ := ho1.shape
  have hf := hA.fp
  clear hA
  simp only at ho1 ⊢
  unfold strV
  obtain ⟨nl, hnl⟩ : ∃ nl, nl = rn.length := ⟨_, rfl⟩
  obtain ⟨al, hal⟩ : ∃ al, al = A.length := ⟨_, rfl⟩
  rw [← hnl] at ho1 ⊢
  rw [← hal] at hn1 ⊢
  have HNL := Lib.hid hnl
  have HAE := Lib.hid hal
  have hbx := heap_alloc_new w4 (.cells #[.int .i64 re, .string (B rp), .string (B rd), .int .i64 rv, .slice na1 nl nc1] TR)
  have K5 := Lib.hid (Kp.and (Kp.row hbx) ((Kp.and (Kp.ns hn1) (Kp.and (Kp.own ho1) (K4.out.later hf))).later (fp_alloc w4 (.cells #[.int .i64 re, .string (B rp), .string (B rd), .int .i64 rv, .slice na1 nl nc1] TR))))
  clear hn1 ho1 hf hbx hnl hal K4 o0 o1 o2 o3 o4 o5
  obtain ⟨o0, o1, o2, o3, o4, o5⟩ := box6 K5.out.now.2.2.2.1
  go_wp2_with fail
  refine (HA2.out _ K5.out.now.2.2.2.2.2.1).mono ?_
  rintro e w5 hA
  obtain ⟨v2, n2, rfl, hn2, ho2⟩ := hA.ex
  obtain ⟨a2, c2, rfl⟩ := hn2.shape
  obtain ⟨na2, nc2, rfl⟩ := ho2.shape
  have hf := hA.fp
  clear hA
  simp only at ho2 ⊢
  unfold strV
  rw [← HNL.out] at ho2 ⊢
  rw [← HAE.out] at hn2 ⊢
  have hbx := heap_alloc_new w5 (.cells #[.int .i64 re, .string (B rp), .string (B rd), .int .i64 rv, .slice na2 nl nc2] TR)
  have K6 := Lib.hid (Kp.and (Kp.row hbx) ((Kp.and (Kp.ns hn2) (Kp.and (Kp.own ho2) (K5.out.later hf))).later (fp_alloc w5 (.cells #[.int .i64 re, .string (B rp), .string (B rd), .int .i64 rv, .slice na2 nl nc2] TR))))
  clear hn2 ho2 hf hbx K5 o0 o1 o2 o3 o4 o5
  obtain ⟨o0, o1, o2, o3, o4, o5⟩ := box6 K6.out.now.2.2.2.2.2.2.1
  go_wp2_with fail
  refine (HF1.out _ K6.out.now.2.2.2.2.2.2.2.2.1).mono ?_
  rintro e w6 ⟨rfl, hf⟩
  have hbx := heap_alloc_new w6 (.cells #[.string (B x.path), .string (B x.data), .int .i64 x.ver, .int .i64 x.turn, .int .i64 x.own] TN)
  have K7 := Lib.hid (Kp.and (Kp.row hbx) (K6.out.later (hf.alloc (.cells #[.string (B x.path), .string (B x.data), .int .i64 x.ver, .int .i64 x.turn, .int .i64 x.own] TN))))
  clear hf hbx K6 o0 o1 o2 o3 o4 o5
  obtain ⟨o0, o1, o2, o3, o4, o5⟩ := box6 K7.out.now.2.2.2.2.2.2.2.1
  go_wp2_with fail
  refine (HF2.out _ K7.out.now.2.2.2.2.2.2.2.2.2.1).mono ?_
  rintro e w7 ⟨rfl, hf⟩
  have hbx := heap_alloc_new w7 (.cells #[.string (B x.path), .string (B x.data), .int .i64 x.ver, .int .i64 x.turn, .int .i64 x.own] TN)
  have K8 := Lib.hid (Kp.and (Kp.row hbx) (K7.out.later (hf.alloc (.cells #[.string (B x.path), .string (B x.data), .int .i64 x.ver, .int .i64 x.turn, .int .i64 x.own] TN))))
  clear hf hbx K7 o0 o1 o2 o3 o4 o5
  have KD := Lib.hid (K8.out.later ((Fp.refl Non (w7.alloc (.cells #[.string (B x.path), .string (B x.data), .int .i64 x.ver, .int .i64 x.turn, .int .i64 x.own] TN))).drew))
  clear K8
  have heq := eq_nds
  have hsm := fun w' h1 h2 => rSameN_c (.slice a1 A.length c1) (.slice a2 A.length c2) A A w' h1 h2 HAL.out HAL.out
  rw [decide_eq_true rfl, ← HAE.out] at hsm
  have HSM := Lib.hid hsm
  have hso : ∀ w', Own w3.heap.size w' (.slice na1 nl nc1) rn → Own (w4.alloc (.cells #[.int .i64 re, .string (B rp), .string (B rd), .int .i64 rv, .slice na1 nl nc1] TR)).heap.size w' (.slice na2 nl nc2) rn → Calls Tryz.prog 16 #[.agg #[.int .i64 re, .string (B rp), .string (B rd), .int .i64 rv, .slice na1 nl nc1], .agg #[.int .i64 re, .string (B rp), .string (B rd), .int .i64 rv, .slice na2 nl nc2]] w' fun e w2 => e = .returned (.bool true) ∧ Fp Non w' w2 :=
    fun w' h1 h2 => rSameOne_c re rp rd rv _ _ w' (fun w1 f => same_own (h1.grown' f) (h2.grown' f))
  have HSO := Lib.hid hso
  clear hsm hso
  go_wp2_with fail
  refine wp_region_held_drew (S := (fun w' => w'.heap[w.heap.size]? = some (.cells #[.int .i64 kk, .string (B p), .string (B d), .int .i64 vv, .int .i64 ow, .bool t] TO_ (0, 0)) ∧ w'.heap[w4.heap.size]? = some (.cells #[.int .i64 re, .string (B rp), .string (B rd), .int .i64 rv, .slice na1 nl nc1] TR (0, 0)) ∧ w'.heap[w5.heap.size]? = some (.cells #[.int .i64 re, .string (B rp), .string (B rd), .int .i64 rv, .slice na2 nl nc2] TR (0, 0)) ∧ w'.heap[w6.heap.size]? = some (.cells #[.string (B x.path), .string (B x.data), .int .i64 x.ver, .int .i64 x.turn, .int .i64 x.own] TN (0, 0)) ∧ w'.heap[w7.heap.size]? = some (.cells #[.string (B x.path), .string (B x.data), .int .i64 x.ver, .int .i64 x.turn, .int .i64 x.own] TN (0, 0)))) (by kernel_rfl) ?_ (fun hHeld => ?_)
  · exact ⟨KD.out.now.2.2.2.2.2.2.2.2.1, KD.out.now.2.2.2.2.2.1, KD.out.now.2.2.1, KD.out.now.2.1, KD.out.now.1⟩
  refine wpAnyH_take (i := 0) (oi := ?oi101) (v := ?vi101) ?h101 (by kernel_rfl) (by kernel_rfl) (by kernel_rfl) ?q101 (Or.inl ⟨?w101, ?y101⟩) hHeld ?r101
  case h101 => simp only [zA, zB] <;> exact rfl
  case q101 => exact fun _ _ _ h => h
  case w101 => rfl
  case y101 =>
    intro w hSw
    (try dsimp only at hSw)
    skip
    go_simp
    try with_reducible rfl
  try simp only [zP, zN, zS, zT, zU]
  refine wpAnyH_take (i := 1) (oi := ?oi102) (v := ?vi102) ?h102 (by kernel_rfl) (by kernel_rfl) (by kernel_rfl) ?q102 (Or.inl ⟨?w102, ?y102⟩) hHeld ?r102
  case h102 => simp only [zA, zB, zC] <;> exact rfl
  case q102 => exact fun _ _ _ h => h
  case w102 => rfl
  case y102 =>
    intro w hSw
    (try dsimp only at hSw)
    skip
    go_simp
    try with_reducible rfl
  try simp only [zP, zN, zS, zT, zU]
  refine wpAnyH_take (i := 2) (oi := ?oi103) (v := ?vi103) ?h103 (by kernel_rfl) (by kernel_rfl) (by kernel_rfl) ?q103 (Or.inl ⟨?w103, ?y103⟩) hHeld ?r103
  case h103 => simp only [zA, zB, zC] <;> exact rfl
  case q103 => exact fun _ _ _ h => h
  case w103 => rfl
  case y103 =>
    intro w hSw
    (try dsimp only at hSw)
    skip
    go_simp
    try with_reducible rfl
  try simp only [zP, zN, zS, zT, zU]
  refine wpAnyH_take (i := 4) (oi := ?oi104) (v := ?vi104) ?h104 (by kernel_rfl) (by kernel_rfl) (by kernel_rfl) ?q104 (Or.inl ⟨?w104, ?y104⟩) hHeld ?r104
  case h104 => simp only [zA, zB, zC] <;> exact rfl
  case q104 => exact fun _ _ _ h => h
  case w104 => rfl
  case y104 =>
    intro w hSw
    (try dsimp only at hSw)
    skip
    go_simp
    try with_reducible rfl
  try simp only [zP, zN, zS, zT, zU]
  refine wpAnyH_ready (rs := [3]) (by kernel_rfl) (by simp) ?_
  refine AllReadyH.cons (o := ?ob105) ?hb105 (fun K hK => ?_) AllReadyH.nil
  case hb105 => simp only [zA, zB, zC] <;> exact rfl
  go_simp
  go_at_call 11
  refine (HR1.out _ KD.out.now.2.2.2.2.2.2.2.2.2.2.1).mono ?_
  rintro e z1 ⟨rfl, hf⟩
  have KE1 := Lib.hid (KD.out.later hf)
  clear hf
  go_wp2_with fail
  refine hK.out _ _ ⟨KE1.out.now.2.2.2.2.2.2.2.2.1, KE1.out.now.2.2.2.2.2.1, KE1.out.now.2.2.1, KE1.out.now.2.1, KE1.out.now.1⟩ (fun hHeld => ?_)
  clear hK K
  try simp only [zP, zN, zS, zT, zU]
  refine wpAnyH_ready (rs := [5]) (by kernel_rfl) (by simp) ?_
  refine AllReadyH.cons (o := ?ob106) ?hb106 (fun K hK => ?_) AllReadyH.nil
  case hb106 => simp only [zA, zB, zC] <;> exact rfl
  go_simp
  go_at_call 12
  refine (HR2.out _ KE1.out.now.2.2.2.2.2.2.2.2.2.2.1).mono ?_
  rintro e z2 ⟨rfl, hf⟩
  have KE2 := Lib.hid (KE1.out.later hf)
  clear hf
  go_wp2_with fail
  refine hK.out _ _ ⟨KE2.out.now.2.2.2.2.2.2.2.2.1, KE2.out.now.2.2.2.2.2.1, KE2.out.now.2.2.1, KE2.out.now.2.1, KE2.out.now.1⟩ (fun hHeld => ?_)
  clear hK K
  try simp only [zP, zN, zS, zT, zU]
  refine wpAnyH_take (i := 6) (oi := ?oi107) (v := ?vi107) ?h107 (by kernel_rfl) (by kernel_rfl) (by kernel_rfl) ?q107 (Or.inl ⟨?w107, ?y107⟩) hHeld ?r107
  case h107 => simp only [zA, zB, zC] <;> exact rfl
  case q107 => exact fun _ _ _ h => h
  case w107 => rfl
  case y107 =>
    intro w hSw
    (try dsimp only at hSw)
    skip
    go_simp
    try with_reducible rfl
  try simp only [zP, zN, zS, zT, zU]
  refine wpAnyH_take (i := 7) (oi := ?oi108) (v := ?vi108) ?h108 (by kernel_rfl) (by kernel_rfl) (by kernel_rfl) ?q108 (Or.inl ⟨?w108, ?y108⟩) hHeld ?r108
  case h108 => simp only [zA, zB, zC] <;> exact rfl
  case q108 => exact fun _ _ _ h => h
  case w108 => rfl
  case y108 =>
    intro w hSw
    (try dsimp only at hSw)
    skip
    go_simp
    try with_reducible rfl
  try simp only [zP, zN, zS, zT, zU]
  refine wpAnyH_take (i := 8) (oi := ?oi109) (v := ?vi109) ?h109 (by kernel_rfl) (by kernel_rfl) (by kernel_rfl) ?q109 (Or.inl ⟨?w109, ?y109⟩) hHeld ?r109
  case h109 => simp only [zA, zB, zC] <;> exact rfl
  case q109 => exact fun _ _ _ h => h
  case w109 => rfl
  case y109 =>
    intro w hSw
    (try dsimp only at hSw)
    skip
    go_simp
    try with_reducible rfl
  try simp only [zP, zN, zS, zT, zU]
  refine wpAnyH_take (i := 9) (oi := ?oi110) (v := ?vi110) ?h110 (by kernel_rfl) (by kernel_rfl) (by kernel_rfl) ?q110 (Or.inl ⟨?w110, ?y110⟩) hHeld ?r110
  case h110 => simp only [zA, zB, zC] <;> exact rfl
  case q110 => exact fun _ _ _ h => h
  case w110 => rfl
  case y110 =>
    intro w hSw
    (try dsimp only at hSw)
    obtain ⟨s0, s1, s2, s3, s4, s5⟩ := box6 hSw.1
    go_simp
    try with_reducible rfl
  try simp only [zP, zN, zS, zT, zU]
  refine wpAnyH_take (i := 11) (oi := ?oi111) (v := ?vi111) ?h111 (by kernel_rfl) (by kernel_rfl) (by kernel_rfl) ?q111 (Or.inl ⟨?w111, ?y111⟩) hHeld ?r111
  case h111 => simp only [zA, zB, zC] <;> exact rfl
  case q111 => exact fun _ _ _ h => h
  case w111 => rfl
  case y111 =>
    intro w hSw
    (try dsimp only at hSw)
    obtain ⟨s0, s1, s2, s3, s4, s5⟩ := box6 hSw.1
    go_simp
    try with_reducible rfl
  try simp only [zP, zN, zS, zT, zU]
  refine wpAnyH_ready (rs := [10]) (by kernel_rfl) (by simp) ?_
  refine AllReadyH.cons (o := ?ob112) ?hb112 (fun K hK => ?_) AllReadyH.nil
  case hb112 => simp only [zA, zB, zC] <;> exact rfl
  go_simp
  go_at_call 13
  refine (HM1.out _).mono ?_
  rintro e z3 ⟨rfl, hf⟩
  have KE3 := Lib.hid (KE2.out.later hf)
  clear hf
  go_wp2_with fail
  refine hK.out _ _ ⟨KE3.out.now.2.2.2.2.2.2.2.2.1, KE3.out.now.2.2.2.2.2.1, KE3.out.now.2.2.1, KE3.out.now.2.1, KE3.out.now.1⟩ (fun hHeld => ?_)
  clear hK K
  try simp only [zP, zN, zS, zT, zU]
  refine wpAnyH_ready (rs := [12]) (by kernel_rfl) (by simp) ?_
  refine AllReadyH.cons (o := ?ob113) ?hb113 (fun K hK => ?_) AllReadyH.nil
  case hb113 => simp only [zA, zB, zC] <;> exact rfl
  go_simp
  go_at_call 14
  refine (HM2.out _).mono ?_
  rintro e z4 ⟨rfl, hf⟩
  have KE4 := Lib.hid (KE3.out.later hf)
  clear hf
  go_wp2_with fail
  refine hK.out _ _ ⟨KE4.out.now.2.2.2.2.2.2.2.2.1, KE4.out.now.2.2.2.2.2.1, KE4.out.now.2.2.1, KE4.out.now.2.1, KE4.out.now.1⟩ (fun hHeld => ?_)
  clear hK K
  try simp only [zP, zN, zS, zT, zU]
  refine wpAnyH_take (i := 13) (oi := ?oi114) (v := ?vi114) ?h114 (by kernel_rfl) (by kernel_rfl) (by kernel_rfl) ?q114 (Or.inl ⟨?w114, ?y114⟩) hHeld ?r114
  case h114 => simp only [zA, zB, zC] <;> exact rfl
  case q114 => exact fun _ _ _ h => h
  case w114 => rfl
  case y114 =>
    intro w hSw
    (try dsimp only at hSw)
    skip
    go_simp
    try with_reducible rfl
  try simp only [zP, zN, zS, zT, zU]
  refine wpAnyH_take (i := 14) (oi := ?oi115) (v := ?vi115) ?h115 (by kernel_rfl) (by kernel_rfl) (by kernel_rfl) ?q115 (Or.inl ⟨?w115, ?y115⟩) hHeld ?r115
  case h115 => simp only [zA, zB, zC] <;> exact rfl
  case q115 => exact fun _ _ _ h => h
  case w115 => rfl
  case y115 =>
    intro w hSw
    (try dsimp only at hSw)
    skip
    go_simp
    try with_reducible rfl
  try simp only [zP, zN, zS, zT, zU]
  refine wpAnyH_take (i := 15) (oi := ?oi116) (v := ?vi116) ?h116 (by kernel_rfl) (by kernel_rfl) (by kernel_rfl) ?q116 (Or.inl ⟨?w116, ?y116⟩) hHeld ?r116
  case h116 => simp only [zA, zB, zC] <;> exact rfl
  case q116 => exact fun _ _ _ h => h
  case w116 => rfl
  case y116 =>
    intro w hSw
    (try dsimp only at hSw)
    skip
    go_simp
    try with_reducible rfl
  try simp only [zP, zN, zS, zT, zU]
  refine wpAnyH_take (i := 16) (oi := ?oi117) (v := ?vi117) ?h117 (by kernel_rfl) (by kernel_rfl) (by kernel_rfl) ?q117 (Or.inl ⟨?w117, ?y117⟩) hHeld ?r117
  case h117 => simp only [zA, zB, zC] <;> exact rfl
  case q117 => exact fun _ _ _ h => h
  case w117 => rfl
  case y117 =>
    intro w hSw
    (try dsimp only at hSw)
    skip
    go_simp
    try with_reducible rfl
  try simp only [zP, zN, zS, zT, zU]
  refine wpAnyH_take (i := 17) (oi := ?oi118) (v := ?vi118) ?h118 (by kernel_rfl) (by kernel_rfl) (by kernel_rfl) ?q118 (Or.inl ⟨?w118, ?y118⟩) hHeld ?r118
  case h118 => simp only [zA, zB, zC] <;> exact rfl
  case q118 => exact fun _ _ _ h => h
  case w118 => rfl
  case y118 =>
    intro w hSw
    (try dsimp only at hSw)
    skip
    go_simp
    try with_reducible rfl
  try simp only [zP, zN, zS, zT, zU]
  refine wpAnyH_ready (rs := [18]) (by kernel_rfl) (by simp) ?_
  refine AllReadyH.cons (o := ?ob119) ?hb119 (fun K hK => ?_) AllReadyH.nil
  case hb119 => simp only [zA, zB, zC] <;> exact rfl
  go_simp
  go_at_call 15
  refine (HSM.out _ KE4.out.now.2.2.2.2.2.2.1 KE4.out.now.2.2.2.1).mono ?_
  rintro e z5 ⟨rfl, hf⟩
  have KE5 := Lib.hid (KE4.out.later hf)
  clear hf
  go_wp2_with fail
  refine hK.out _ _ ⟨KE5.out.now.2.2.2.2.2.2.2.2.1, KE5.out.now.2.2.2.2.2.1, KE5.out.now.2.2.1, KE5.out.now.2.1, KE5.out.now.1⟩ (fun hHeld => ?_)
  clear hK K
  try simp only [zP, zN, zS, zT, zU]
  refine wpAnyH_take (i := 19) (oi := ?oi120) (v := ?vi120) ?h120 (by kernel_rfl) (by kernel_rfl) (by kernel_rfl) ?q120 (Or.inl ⟨?w120, ?y120⟩) hHeld ?r120
  case h120 => simp only [zA, zB, zC] <;> exact rfl
  case q120 => exact fun _ _ _ h => h
  case w120 => rfl
  case y120 =>
    intro w hSw
    (try dsimp only at hSw)
    skip
    go_simp
    try with_reducible rfl
  try simp only [zP, zN, zS, zT, zU]
  refine wpAnyH_take (i := 20) (oi := ?oi121) (v := ?vi121) ?h121 (by kernel_rfl) (by kernel_rfl) (by kernel_rfl) ?q121 (Or.inl ⟨?w121, ?y121⟩) hHeld ?r121
  case h121 => simp only [zA, zB, zC] <;> exact rfl
  case q121 => exact fun _ _ _ h => h
  case w121 => rfl
  case y121 =>
    intro w hSw
    (try dsimp only at hSw)
    skip
    go_simp
    try with_reducible rfl
  try simp only [zP, zN, zS, zT, zU]
  refine wpAnyH_take (i := 21) (oi := ?oi122) (v := ?vi122) ?h122 (by kernel_rfl) (by kernel_rfl) (by kernel_rfl) ?q122 (Or.inl ⟨?w122, ?y122⟩) hHeld ?r122
  case h122 => simp only [zA, zB, zC] <;> exact rfl
  case q122 => exact fun _ _ _ h => h
  case w122 => rfl
  case y122 =>
    intro w hSw
    (try dsimp only at hSw)
    obtain ⟨s0, s1, s2, s3, s4⟩ := box5 hSw.2.1
    go_simp
    try with_reducible rfl
  try simp only [zP, zN, zS, zT, zU]
  refine wpAnyH_take (i := 22) (oi := ?oi123) (v := ?vi123) ?h123 (by kernel_rfl) (by kernel_rfl) (by kernel_rfl) ?q123 (Or.inl ⟨?w123, ?y123⟩) hHeld ?r123
  case h123 => simp only [zA, zB, zC] <;> exact rfl
  case q123 => exact fun _ _ _ h => h
  case w123 => rfl
  case y123 =>
    intro w hSw
    (try dsimp only at hSw)
    obtain ⟨s0, s1, s2, s3, s4⟩ := box5 hSw.2.2.1
    go_simp
    try with_reducible rfl
  try simp only [zP, zN, zS, zT, zU]
  refine wpAnyH_ready (rs := [23]) (by kernel_rfl) (by simp) ?_
  refine AllReadyH.cons (o := ?ob124) ?hb124 (fun K hK => ?_) AllReadyH.nil
  case hb124 => simp only [zA, zB, zC] <;> exact rfl
  go_simp
  go_at_call 16
  refine (HSO.out _ KE5.out.now.2.2.2.2.2.2.2.1 KE5.out.now.2.2.2.2.1).mono ?_
  rintro e z6 ⟨rfl, hf⟩
  have KE6 := Lib.hid (KE5.out.later hf)
  clear hf
  go_wp2_with fail
  refine hK.out _ _ ⟨KE6.out.now.2.2.2.2.2.2.2.2.1, KE6.out.now.2.2.2.2.2.1, KE6.out.now.2.2.1, KE6.out.now.2.1, KE6.out.now.1⟩ (fun hHeld => ?_)
  clear hK K
  try simp only [zP, zN, zS, zT, zU]
  refine wpAnyH_take (i := 24) (oi := ?oi125) (v := ?vi125) ?h125 (by kernel_rfl) (by kernel_rfl) (by kernel_rfl) ?q125 (Or.inl ⟨?w125, ?y125⟩) hHeld ?r125
  case h125 => simp only [zA, zB, zC] <;> exact rfl
  case q125 => exact fun _ _ _ h => h
  case w125 => rfl
  case y125 =>
    intro w hSw
    (try dsimp only at hSw)
    skip
    go_simp
    try with_reducible rfl
  try simp only [zP, zN, zS, zT, zU]
  refine wpAnyH_take (i := 25) (oi := ?oi126) (v := ?vi126) ?h126 (by kernel_rfl) (by kernel_rfl) (by kernel_rfl) ?q126 (Or.inl ⟨?w126, ?y126⟩) hHeld ?r126
  case h126 => simp only [zA, zB, zC] <;> exact rfl
  case q126 => exact fun _ _ _ h => h
  case w126 => rfl
  case y126 =>
    intro w hSw
    (try dsimp only at hSw)
    skip
    go_simp
    try with_reducible rfl
  try simp only [zP, zN, zS, zT, zU]
  refine wpAnyH_take (i := 26) (oi := ?oi127) (v := ?vi127) ?h127 (by kernel_rfl) (by kernel_rfl) (by kernel_rfl) ?q127 (Or.inl ⟨?w127, ?y127⟩) hHeld ?r127
  case h127 => simp only [zA, zB, zC] <;> exact rfl
  case q127 => exact fun _ _ _ h => h
  case w127 => rfl
  case y127 =>
    intro w hSw
    (try dsimp only at hSw)
    obtain ⟨s0, s1, s2, s3, s4⟩ := box5 hSw.2.2.2.1
    go_simp
    try with_reducible rfl
  try simp only [zP, zN, zS, zT, zU]
  refine wpAnyH_take (i := 27) (oi := ?oi128) (v := ?vi128) ?h128 (by kernel_rfl) (by kernel_rfl) (by kernel_rfl) ?q128 (Or.inl ⟨?w128, ?y128⟩) hHeld ?r128
  case h128 => simp only [zA, zB, zC] <;> exact rfl
  case q128 => exact fun _ _ _ h => h
  case w128 => rfl
  case y128 =>
    intro w hSw
    (try dsimp only at hSw)
    obtain ⟨s0, s1, s2, s3, s4⟩ := box5 hSw.2.2.2.2
    go_simp
    try with_reducible rfl
  try simp only [zP, zN, zS, zT, zU]
  refine wpAnyH_take (i := 28) (oi := ?oi129) (v := ?vi129) ?h129 (by kernel_rfl) (by kernel_rfl) (by kernel_rfl) ?q129 (Or.inl ⟨?w129, ?y129⟩) hHeld ?r129
  case h129 => simp only [zA, zB, zC] <;> exact rfl
  case q129 => exact fun _ _ _ h => h
  case w129 => rfl
  case y129 =>
    intro w hSw
    (try dsimp only at hSw)
    skip
    go_simp
    try with_reducible rfl
  try simp only [zP, zN, zS, zT, zU]
  refine wpAnyH_take (i := 29) (oi := ?oi130) (v := ?vi130) ?h130 (by kernel_rfl) (by kernel_rfl) (by kernel_rfl) ?q130 (Or.inl ⟨?w130, ?y130⟩) hHeld ?r130
  case h130 => simp only [zA, zB, zC] <;> exact rfl
  case q130 => exact fun _ _ _ h => h
  case w130 => rfl
  case y130 =>
    intro w hSw
    (try dsimp only at hSw)
    skip
    go_simp
    try with_reducible rfl
  try simp only [zP, zN, zS, zT, zU]
  refine wpAnyH_take (i := 30) (oi := ?oi131) (v := ?vi131) ?h131 (by kernel_rfl) (by kernel_rfl) (by kernel_rfl) ?q131 (Or.inl ⟨?w131, ?y131⟩) hHeld ?r131
  case h131 => simp only [zA, zB, zC] <;> exact rfl
  case q131 => exact fun _ _ _ h => h
  case w131 => rfl
  case y131 =>
    intro w hSw
    (try dsimp only at hSw)
    skip
    go_simp
    try with_reducible rfl
  try simp only [zP, zN, zS, zT, zU]
  refine wpAnyH_take (i := 31) (oi := ?oi132) (v := ?vi132) ?h132 (by kernel_rfl) (by kernel_rfl) (by kernel_rfl) ?q132 (Or.inl ⟨?w132, ?y132⟩) hHeld ?r132
  case h132 => simp only [zA, zB, zC] <;> exact rfl
  case q132 => exact fun _ _ _ h => h
  case w132 => rfl
  case y132 =>
    intro w hSw
    (try dsimp only at hSw)
    skip
    go_simp
    try with_reducible rfl
  try simp only [zP, zN, zS, zT, zU]
  refine wpAnyH_take (i := 32) (oi := ?oi133) (v := ?vi133) ?h133 (by kernel_rfl) (by kernel_rfl) (by kernel_rfl) ?q133 (Or.inl ⟨?w133, ?y133⟩) hHeld ?r133
  case h133 => simp only [zA, zB, zC] <;> exact rfl
  case q133 => exact fun _ _ _ h => h
  case w133 => rfl
  case y133 =>
    intro w hSw
    (try dsimp only at hSw)
    skip
    go_simp
    try with_reducible rfl
  try simp only [zP, zN, zS, zT, zU]
  refine wpAnyH_take (i := 33) (oi := ?oi134) (v := ?vi134) ?h134 (by kernel_rfl) (by kernel_rfl) (by kernel_rfl) ?q134 (Or.inl ⟨?w134, ?y134⟩) hHeld ?r134
  case h134 => simp only [zA, zB, zC] <;> exact rfl
  case q134 => exact fun _ _ _ h => h
  case w134 => rfl
  case y134 =>
    intro w hSw
    (try dsimp only at hSw)
    skip
    go_simp
    try with_reducible rfl
  try simp only [zP, zN, zS, zT, zU]
  refine wpAnyH_take (i := 34) (oi := ?oi135) (v := ?vi135) ?h135 (by kernel_rfl) (by kernel_rfl) (by kernel_rfl) ?q135 (Or.inl ⟨?w135, ?y135⟩) hHeld ?r135
  case h135 => simp only [zA, zB, zC] <;> exact rfl
  case q135 => exact fun _ _ _ h => h
  case w135 => rfl
  case y135 =>
    intro w hSw
    (try dsimp only at hSw)
    skip
    go_simp
    try with_reducible rfl
  try simp only [zP, zN, zS, zT, zU]
  refine wpAnyH_take (i := 35) (oi := ?oi136) (v := ?vi136) ?h136 (by kernel_rfl) (by kernel_rfl) (by kernel_rfl) ?q136 (Or.inl ⟨?w136, ?y136⟩) hHeld ?r136
  case h136 => simp only [zA, zB, zC] <;> exact rfl
  case q136 => exact fun _ _ _ h => h
  case w136 => rfl
  case y136 =>
    intro w hSw
    (try dsimp only at hSw)
    skip
    go_simp
    try with_reducible rfl
  try simp only [zP, zN, zS, zT, zU]
  refine wpAnyH_done (by kernel_rfl) ?_ _
  go_wp2
  go_ret
  exact ⟨rfl, KE6.out.now.2.2.2.2.2.2.2.2.2.1⟩
end Go.Proofs.YthaepjeikicigaaGreatDoor
