/- WatchRight (gen_zq.py) -/
import Derived.Test.YthgcmkgfmmjmaaaZp
import Derived.Deep.CutRange
namespace Go.Proofs.Ythgcmkgfmmjmaaa
set_option maxRecDepth 20000
set_option linter.unusedVariables false
set_option linter.unusedSimpArgs false
open Go.RowKit Pm


structure Sz9 (D : Wd) : Prop where
  s : D.ws.length ≤ 100000 ∧ D.ss.length ≤ 100000 ∧ ∀ s ∈ D.ss, s.evs.length ≤ 100000
theorem sz9 {D : Wd} (h : rightW D = true) (hs : D.ss.length ≤ 30000) : Sz9 D := by
  have k := right_sz h hs
  exact ⟨by have := k.w; omega, by omega, fun s hs => by have := (k.sp s hs).1; omega⟩
theorem Same_e (v u : Value) (a b : Wd) (q : Bool) (hq : decide (a = b) = q) (w : World) (hv : WdR w v a) (hu : WdR w u b) (ha : Sz9 a) (hb : Sz9 b) :
    Calls Try.prog 24 #[v, u] w fun e w' => e = .returned (.bool q) ∧ Fp Non w w' := by
  have h := Same_c v u a b w hv hu ha.s hb.s
  rwa [hq] at h
theorem rRight_t (v : Value) (D : Wd) (w : World) (hv : WdR w v D) (hr : rightW D = true) (hs : D.ss.length ≤ 30000) :
    Calls Try.prog 14 #[v] w fun e w' => e = .returned (.bool true) ∧ Fp Non w w' := by
  have h := rRight_w v D w hv (right_sz hr hs)
  rwa [hr] at h
theorem add_ways {d : Wd} (x : Wt) (h : rightW d = true) : (addM d x).2 = 0 ∨ ((addM d x).2 ≠ 0 ∧ (addM d x).1 = d) ∨ ((addM d x).2 = 1 ∧ (addM d x).1 = ⟨[], []⟩) := by
  unfold addM
  split
  · split
    · exact .inr (.inl ⟨by simp, rfl⟩)
    · split
      · exact .inr (.inl ⟨by simp, rfl⟩)
      · exact .inl rfl
  · exact .inr (.inr ⟨rfl, rfl⟩)
theorem close_ways {d : Wd} (s n : Int) (h : rightW d = true) : (closeM d s n).2 = 0 ∨ ((closeM d s n).2 ≠ 0 ∧ (closeM d s n).1 = d) := by
  unfold closeM
  rw [if_pos h]
  split
  · exact .inl rfl
  · exact .inr ⟨by simp, rfl⟩
theorem tell_ways {d : Wd} (kd : Int) (p : Bs) : (tellM d kd p).2 = 0 ∨ ((tellM d kd p).2 ≠ 0 ∧ (tellM d kd p).1 = ⟨[], []⟩) := by
  unfold tellM
  split
  · exact .inl rfl
  · exact .inr ⟨by simp, rfl⟩
theorem take_ways {d : Wd} (s n : Int) (h : rightW d = true) : (takeM d s n).2.2 = 0 ∨ ((takeM d s n).2.2 ≠ 0 ∧ (takeM d s n).1 = d) := by
  unfold takeM
  rw [if_pos h]
  split
  · exact .inr ⟨by simp, rfl⟩
  · exact .inl rfl
theorem ss_len {d : Wd} (h : rightW d = true) (x : Wt) (s n : Int) (kd : Int) (p : Bs) (u : Int) : (addM d x).1.ss.length ≤ d.ss.length + 64 ∧ (closeM d s n).1.ss.length ≤ d.ss.length + 64 ∧ (tellM d kd p).1.ss.length ≤ d.ss.length + 64 ∧ (takeM d s u).1.ss.length ≤ d.ss.length + 64 := by
  refine ⟨?_, ?_, tell_ss d kd p ((right_iff d).1 h).1, ?_⟩
  · unfold addM
    split
    · split
      · simp only; omega
      · split
        · simp only; omega
        · have := putS_len d.ss (seS d.ss x.s); simp only; omega
    · simp
  · unfold closeM
    split
    · split
      · simp only; omega
      · simp only; omega
    · exact absurd h (by assumption)
  · unfold takeM
    split
    · split
      · simp only; omega
      · rename_i s' _
        have := putS_len d.ss ⟨s'.num, s'.count, cutE u s'.evs⟩; simp only; omega
    · exact absurd h (by assumption)

set_option maxHeartbeats 16000000 in
theorem WatchRight_c (v : Value) (d : Wd) (o : O9) (w : World) (hv : WdR w v d) (hn : d.ws.length ≤ 140737488355328) (hm : d.ss.length ≤ 140737488355328) :
    Calls Try.prog 4 #[v, o9V o] w fun e w' => e = .returned (.bool true) ∧ Fp Non w w' := by
  obtain ⟨aw, cw, at_, cs, rfl⟩ := hv.vals
  obtain ⟨wh, ⟨sx, nx, px, dx⟩, kd, p, un⟩ := o
  obtain ⟨n, hnn⟩ : ∃ n, n = d.ws.length := ⟨_, rfl⟩
  obtain ⟨m, hmm⟩ : ∃ m, m = d.ss.length := ⟨_, rfl⟩
  rw [← hnn, ← hmm] at hv ⊢
  have f0 := fp_alloc w (.cells #[.slice aw n cw, .slice at_ m cs] TD)
  have f1 := fp_alloc (w.alloc (.cells #[.slice aw n cw, .slice at_ m cs] TD)) (.cells #[.int .i64 wh, .int .i64 sx, .int .i64 nx, .string (B px), .bool dx, .int .i64 kd, .string (B p), .int .i64 un] TO)
  have r0 := f1.heap (heap_alloc_new w (.cells #[.slice aw n cw, .slice at_ m cs] TD)) (fun h => h)
  have r1 := heap_alloc_new (w.alloc (.cells #[.slice aw n cw, .slice at_ m cs] TD)) (.cells #[.int .i64 wh, .int .i64 sx, .int .i64 nx, .string (B px), .bool dx, .int .i64 kd, .string (B p), .int .i64 un] TO)
  have sz1 : ((w.alloc (.cells #[.slice aw n cw, .slice at_ m cs] TD))).heap.size = w.heap.size + 1 := by simp
  rw [sz1] at r1
  have K0 := Lib.hid (Kp.and (Kp.row r0) (Kp.and (Kp.row r1) (Kp.and (Kp.wd (hv.non (f0.then f1))) (Kp.fp (f0.then f1)))))
  have HN := Lib.hid (And.intro hnn (And.intro hmm (And.intro hn hm)))
  clear hv hn hm hnn hmm r0 r1 f0 f1 sz1
  unfold o9V strV
  go_enter Try.func4, Try.ntmps4
  go_wp2_with fail
  refine (head_c _).mono ?_
  rintro e w1 ⟨rfl, hf⟩
  have K1 := Lib.hid (K0.out.later hf)
  clear hf K0
  obtain ⟨p0, p1⟩ := boxP2 K1.out.now.1
  go_wp2_with fail
  refine (GreatAll_c _ d w1 K1.out.now.2.2.1 HN.out.2.2.1 HN.out.2.2.2).mono ?_
  rintro e w2 ⟨g, rfl, hg, hf⟩
  have K2 := Lib.hid (K1.out.later hf)
  have HG := Lib.hid hg
  clear hf hg K1 p0 p1
  have F2 := Lib.hid K2.out.now.2.2.2
  cases g with
  | true =>
    clear K2 HG
    go_wp2
    go_ret
    exact ⟨rfl, F2.out⟩
  | false =>
    have HFW := Lib.hid (HG.out rfl)
    clear HG
    obtain ⟨x0, x1, x2, x3, x4, x5, x6, x7⟩ := boxP8 K2.out.now.2.1
    have hop : Ops (w2.alloc (.cells #[.int .i64 wh, .int .i64 sx, .int .i64 nx, .string (B px), .bool dx, .int .i64 kd, .string (B p), .int .i64 un] TO)) (.slice (some ⟨w2.heap.size, 0, none⟩) 1 1) [⟨wh, ⟨sx, nx, px, dx⟩, kd, p, un⟩] := by
      obtain ⟨y0, y1, y2, y3, y4, y5, y6, y7⟩ := boxP8 (heap_alloc_new w2 (.cells #[.int .i64 wh, .int .i64 sx, .int .i64 nx, .string (B px), .bool dx, .int .i64 kd, .string (B p), .int .i64 un] TO))
      refine ⟨_, 1, rfl, .inr ⟨w2.heap.size, 0, rfl, fun i hi => ?_⟩⟩
      have : i = 0 := by simpa using hi
      subst this
      exact ⟨y0, y1, y2, y3, y4, y5, y6, y7⟩
    have HGC := Lib.hid (Great_c _ _ _ hop)
    have K3 := Lib.hid (K2.out.later (fp_alloc w2 (.cells #[.int .i64 wh, .int .i64 sx, .int .i64 nx, .string (B px), .bool dx, .int .i64 kd, .string (B p), .int .i64 un] TO)))
    clear hop K2
    go_wp2_with fail
    refine HGC.out.mono ?_
    rintro e w3 ⟨g, rfl, hg, hf⟩
    have K4 := Lib.hid (K3.out.later hf)
    have HG := Lib.hid hg
    clear hf hg K3 x0 x1 x2 x3 x4 x5 x6 x7 HGC F2
    have F4 := Lib.hid K4.out.now.2.2.2
    cases g with
    | true =>
      clear K4 HG
      go_wp2
      go_ret
      exact ⟨rfl, F4.out⟩
    | false =>
      have hfo := (HG.out rfl).2 _ (List.mem_singleton.2 rfl)
      have HFO := Lib.hid hfo
      clear hfo HG F4
      have hrr := rRight_w _ d w3 K4.out.now.2.2.1 HFW.out.sz
      obtain ⟨br, hbr⟩ : ∃ b, rightW d = b := ⟨_, rfl⟩
      rw [hbr] at hrr
      have HRR := Lib.hid hrr
      have HBR := Lib.hid hbr
      clear hrr hbr
      obtain ⟨p0, p1⟩ := boxP2 K4.out.now.1
      go_wp2_with fail
      refine HRR.out.mono ?_
      rintro e w5 ⟨rfl, hf⟩
      have K5 := Lib.hid (K4.out.later hf)
      clear hf K4 HRR p0 p1
      have F5 := Lib.hid K5.out.now.2.2.2
      cases br with
      | false =>
        clear K5 HFW
        go_wp2
        go_ret
        exact ⟨rfl, F5.out⟩
      | true =>
        clear F5
        go_upto_region 4 with (fail)
        go_cut [6] from 31 to 39 (fun x6 wc => ∃ N a9 c9 d9 e9, x6 = .pointer (some ⟨N, 0, none⟩) ∧ Hid (Kp (fun w' => w'.heap[N]? = some (.cells #[.slice a9 n c9, .slice d9 m e9] TD (0, 0)) ∧ WdR w' (.agg #[.slice a9 n c9, .slice d9 m e9]) d ∧ w'.heap[w.heap.size]? = some (.cells #[.slice aw n cw, .slice at_ m cs] TD (0, 0)) ∧ w'.heap[w.heap.size + 1]? = some (.cells #[.int .i64 wh, .int .i64 sx, .int .i64 nx, .string (B px), .bool dx, .int .i64 kd, .string (B p), .int .i64 un] TO (0, 0)) ∧ WdR w' (.agg #[.slice aw n cw, .slice at_ m cs]) d ∧ Fp Non w w') wc))
        case first =>
          have HKD := Lib.hid (fun W (f : Fp Non w5.drew W) => (K5.out.later ((Fp.refl Non w5).drew)).later f |>.now)
          have Hq := Lib.hid (fun W (f : Fp Non w5.drew W) => boxP2 (HKD.out W f).1)
          obtain ⟨vw, vs, evv, hvw, hvs⟩ := (HKD.out _ (Fp.refl _ _)).2.2.1.ex
          injection evv with evv
          injection evv with evv
          simp only [List.cons.injEq, and_true] at evv
          obtain ⟨rfl, rfl⟩ := evv
          have HVW := Lib.hid hvw
          have HVS := Lib.hid hvs
          have HNW : Hid (n = d.ws.length) := HN.out.1
          have HNS : Hid (m = d.ss.length) := HN.out.2.1
          have HLW := Lib.hid (show d.ws.length ≤ 100000 by have := HFW.out.n; omega)
          have HLS := Lib.hid (show d.ss.length ≤ 100000 by have := HFW.out.n; omega)
          have ST0 := Lib.hid (Rst.start w5.drew d)
          clear hvw hvs
          go_wp2_with fail
          refine wp_region_held_drew (S := (fun w' => w'.cell? ⟨w.heap.size, 0, none⟩ = some (.slice aw n cw) ∧ w'.cell? ⟨w.heap.size, 1, none⟩ = some (.slice at_ m cs))) (by kernel_rfl) ?_ (fun hHeld => ?_)
          · exact Hq.out _ (Fp.refl _ _)
          generalize w5.drew = q0 at *
          refine tk 1 hHeld ?_
          refine tk 2 hHeld ?_
          refine tk 5 hHeld ?_
          refine tk 6 hHeld ?_
          refine wpAnyH_ready (rs := [0, 4, 9]) (by kernel_rfl) (by simp) ?_
          refine (AllReadyH.cons (o := ?_) (by simp only [zA, zB, zC] <;> exact rfl) (fun K hK => ?_) (AllReadyH.cons (o := ?_) (by simp only [zA, zB, zC] <;> exact rfl) (fun K hK => ?_) (AllReadyH.cons (o := ?_) (by simp only [zA, zB, zC] <;> exact rfl) (fun K hK => ?_) AllReadyH.nil)))
          · go_simp
            have ST1 := Lib.hid ST0.out.b1
            refine hK.out _ _ (Hq.out _ ST1.out.f) (fun hHeld => ?_)
            clear hK K
            try simp only [zP, zN, zS, zT, zU]
            obtain ⟨g1, hg1⟩ : ∃ q, q0.heap.size = q := ⟨_, rfl⟩
            rw [hg1] at ST1 ⊢
            clear hg1
            generalize (q0.alloc (.cells #[] TW)) = q1 at *
            refine wpAnyH_ready (rs := [3, 4, 9]) (by kernel_rfl) (by simp) ?_
            refine (AllReadyH.cons (o := ?_) (by simp only [zA, zB, zC] <;> exact rfl) (fun K hK => ?_) (AllReadyH.cons (o := ?_) (by simp only [zA, zB, zC] <;> exact rfl) (fun K hK => ?_) (AllReadyH.cons (o := ?_) (by simp only [zA, zB, zC] <;> exact rfl) (fun K hK => ?_) AllReadyH.nil)))
            · refine step_app rfl _ _ TLW TLW rfl (.slice (some ⟨g1, 0, none⟩) 0 0) (.slice aw n cw) (by first | rfl | simp [Act.eval, Act.put]) (by first | rfl | simp [Act.eval, Act.put]) _ (ST1.out.a1 HVW.out HLW.out _) ?_
              rintro v2 q2 ⟨⟨a9, c9, rfl⟩, hR⟩
              rw [← HNW.out] at hR ⊢
              have ST2 := Lib.hid hR
              clear hR
              refine hK.out _ _ (Hq.out _ ST2.out.f) (fun hHeld => ?_)
              clear hK K
              try simp only [zP, zN, zS, zT, zU]
              refine wpAnyH_ready (rs := [4, 9]) (by kernel_rfl) (by simp) ?_
              refine (AllReadyH.cons (o := ?_) (by simp only [zA, zB, zC] <;> exact rfl) (fun K hK => ?_) (AllReadyH.cons (o := ?_) (by simp only [zA, zB, zC] <;> exact rfl) (fun K hK => ?_) AllReadyH.nil))
              · go_simp
                have ST3 := Lib.hid ST2.out.b2
                refine hK.out _ _ (Hq.out _ ST3.out.f) (fun hHeld => ?_)
                clear hK K
                try simp only [zP, zN, zS, zT, zU]
                obtain ⟨g2, hg2⟩ : ∃ q, q2.heap.size = q := ⟨_, rfl⟩
                rw [hg2] at ST3 ⊢
                clear hg2
                generalize (q2.alloc (.cells #[] TV)) = q3 at *
                refine wpAnyH_ready (rs := [7, 9]) (by kernel_rfl) (by simp) ?_
                refine (AllReadyH.cons (o := ?_) (by simp only [zA, zB, zC] <;> exact rfl) (fun K hK => ?_) (AllReadyH.cons (o := ?_) (by simp only [zA, zB, zC] <;> exact rfl) (fun K hK => ?_) AllReadyH.nil))
                · refine step_app rfl _ _ TLV TLV rfl (.slice (some ⟨g2, 0, none⟩) 0 0) (.slice at_ m cs) (by first | rfl | simp [Act.eval, Act.put]) (by first | rfl | simp [Act.eval, Act.put]) _ (ST3.out.a2 HVS.out HLS.out _) ?_
                  rintro v4 q4 ⟨⟨d9, e9, rfl⟩, hR⟩
                  rw [← HNS.out] at hR ⊢
                  have ST4 := Lib.hid hR
                  clear hR
                  refine hK.out _ _ (Hq.out _ ST4.out.f) (fun hHeld => ?_)
                  clear hK K
                  try simp only [zP, zN, zS, zT, zU]
                  refine tk 8 hHeld ?_
                  refine wpAnyH_ready (rs := [9]) (by kernel_rfl) (by simp) ?_
                  refine (AllReadyH.cons (o := ?_) (by simp only [zA, zB, zC] <;> exact rfl) (fun K hK => ?_) AllReadyH.nil)
                  go_simp
                  have ST5 := Lib.hid ST4.out.box
                  refine hK.out _ _ (Hq.out _ ST5.out.f) (fun hHeld => ?_)
                  clear hK K
                  try simp only [zP, zN, zS, zT, zU]
                  obtain ⟨N, hN⟩ : ∃ q, q4.heap.size = q := ⟨_, rfl⟩
                  rw [hN] at ST5 ⊢
                  clear hN
                  generalize (q4.alloc (.cells #[.slice none 0 0, .slice none 0 0] TD)) = q5 at *
                  have hnb := (ST5.out.nb N rfl)
                  obtain ⟨s0, s1, s2, s3, s4, s5, hz, hzf⟩ := two_set hnb.1 (.slice a9 n c9) (.slice d9 m e9)
                  have HC := Lib.hid (And.intro hz (And.intro ((ST5.out.f).over hzf (fun k hk => by have hk : k = N := hk; have := hnb.2; omega)) (show WdR _ (.agg #[.slice a9 n c9, .slice d9 m e9]) d from (show WdR q5 (.agg #[.slice a9 n c9, .slice d9 m e9]) d from ⟨_, _, rfl, ST5.out.r1 _ rfl, ST5.out.r2 _ rfl⟩).off hnb.1 hzf)))
                  clear hnb hz hzf
                  refine wpAnyH_ready (rs := [10]) (by kernel_rfl) (by simp) ?_
                  refine (AllReadyH.cons (o := ?_) (by simp only [zA, zB, zC] <;> exact rfl) (fun K hK => ?_) AllReadyH.nil)
                  go_simp
                  refine hK.out _ _ (Hq.out _ HC.out.2.1) (fun hHeld => ?_)
                  clear hK K
                  try simp only [zP, zN, zS, zT, zU]
                  refine yD ?_
                  clear s0 s1 s2 s3 s4 s5
                  generalize (World.setCell (World.setCell q5 _ _) _ _) = qe at *
                  go_wp2_with fail
                  go_meet
                  case rel => exact ⟨N, a9, c9, d9, e9, rfl, Kp.and (Kp.row HC.out.1) (Kp.and (Kp.wd HC.out.2.2) (Kp.and (Kp.row (HKD.out _ HC.out.2.1).1) (Kp.and (Kp.row (HKD.out _ HC.out.2.1).2.1) (Kp.and (Kp.wd (HKD.out _ HC.out.2.1).2.2.1) (Kp.fp (HKD.out _ HC.out.2.1).2.2.2)))))⟩
                · go_simp
                  have ST6 := Lib.hid ST3.out.box
                  refine hK.out _ _ (Hq.out _ ST6.out.f) (fun hHeld => ?_)
                  clear hK K
                  try simp only [zP, zN, zS, zT, zU]
                  obtain ⟨N, hN⟩ : ∃ q, q3.heap.size = q := ⟨_, rfl⟩
                  rw [hN] at ST6 ⊢
                  clear hN
                  generalize (q3.alloc (.cells #[.slice none 0 0, .slice none 0 0] TD)) = q6 at *
                  refine wpAnyH_ready (rs := [7]) (by kernel_rfl) (by simp) ?_
                  refine (AllReadyH.cons (o := ?_) (by simp only [zA, zB, zC] <;> exact rfl) (fun K hK => ?_) AllReadyH.nil)
                  refine step_app rfl _ _ TLV TLV rfl (.slice (some ⟨g2, 0, none⟩) 0 0) (.slice at_ m cs) (by first | rfl | simp [Act.eval, Act.put]) (by first | rfl | simp [Act.eval, Act.put]) _ (ST6.out.a2 HVS.out HLS.out _) ?_
                  rintro v7 q7 ⟨⟨d9, e9, rfl⟩, hR⟩
                  rw [← HNS.out] at hR ⊢
                  have ST7 := Lib.hid hR
                  clear hR
                  refine hK.out _ _ (Hq.out _ ST7.out.f) (fun hHeld => ?_)
                  clear hK K
                  try simp only [zP, zN, zS, zT, zU]
                  refine tk 8 hHeld ?_
                  have hnb := (ST7.out.nb N rfl)
                  obtain ⟨s0, s1, s2, s3, s4, s5, hz, hzf⟩ := two_set hnb.1 (.slice a9 n c9) (.slice d9 m e9)
                  have HC := Lib.hid (And.intro hz (And.intro ((ST7.out.f).over hzf (fun k hk => by have hk : k = N := hk; have := hnb.2; omega)) (show WdR _ (.agg #[.slice a9 n c9, .slice d9 m e9]) d from (show WdR q7 (.agg #[.slice a9 n c9, .slice d9 m e9]) d from ⟨_, _, rfl, ST7.out.r1 _ rfl, ST7.out.r2 _ rfl⟩).off hnb.1 hzf)))
                  clear hnb hz hzf
                  refine wpAnyH_ready (rs := [10]) (by kernel_rfl) (by simp) ?_
                  refine (AllReadyH.cons (o := ?_) (by simp only [zA, zB, zC] <;> exact rfl) (fun K hK => ?_) AllReadyH.nil)
                  go_simp
                  refine hK.out _ _ (Hq.out _ HC.out.2.1) (fun hHeld => ?_)
                  clear hK K
                  try simp only [zP, zN, zS, zT, zU]
                  refine yD ?_
                  clear s0 s1 s2 s3 s4 s5
                  generalize (World.setCell (World.setCell q7 _ _) _ _) = qe at *
                  go_wp2_with fail
                  go_meet
                  case rel => exact ⟨N, a9, c9, d9, e9, rfl, Kp.and (Kp.row HC.out.1) (Kp.and (Kp.wd HC.out.2.2) (Kp.and (Kp.row (HKD.out _ HC.out.2.1).1) (Kp.and (Kp.row (HKD.out _ HC.out.2.1).2.1) (Kp.and (Kp.wd (HKD.out _ HC.out.2.1).2.2.1) (Kp.fp (HKD.out _ HC.out.2.1).2.2.2)))))⟩
              · go_simp
                have ST8 := Lib.hid ST2.out.box
                refine hK.out _ _ (Hq.out _ ST8.out.f) (fun hHeld => ?_)
                clear hK K
                try simp only [zP, zN, zS, zT, zU]
                obtain ⟨N, hN⟩ : ∃ q, q2.heap.size = q := ⟨_, rfl⟩
                rw [hN] at ST8 ⊢
                clear hN
                generalize (q2.alloc (.cells #[.slice none 0 0, .slice none 0 0] TD)) = q8 at *
                refine wpAnyH_ready (rs := [4]) (by kernel_rfl) (by simp) ?_
                refine (AllReadyH.cons (o := ?_) (by simp only [zA, zB, zC] <;> exact rfl) (fun K hK => ?_) AllReadyH.nil)
                go_simp
                have ST9 := Lib.hid ST8.out.b2
                refine hK.out _ _ (Hq.out _ ST9.out.f) (fun hHeld => ?_)
                clear hK K
                try simp only [zP, zN, zS, zT, zU]
                obtain ⟨g2, hg2⟩ : ∃ q, q8.heap.size = q := ⟨_, rfl⟩
                rw [hg2] at ST9 ⊢
                clear hg2
                generalize (q8.alloc (.cells #[] TV)) = q9 at *
                refine wpAnyH_ready (rs := [7]) (by kernel_rfl) (by simp) ?_
                refine (AllReadyH.cons (o := ?_) (by simp only [zA, zB, zC] <;> exact rfl) (fun K hK => ?_) AllReadyH.nil)
                refine step_app rfl _ _ TLV TLV rfl (.slice (some ⟨g2, 0, none⟩) 0 0) (.slice at_ m cs) (by first | rfl | simp [Act.eval, Act.put]) (by first | rfl | simp [Act.eval, Act.put]) _ (ST9.out.a2 HVS.out HLS.out _) ?_
                rintro v10 q10 ⟨⟨d9, e9, rfl⟩, hR⟩
                rw [← HNS.out] at hR ⊢
                have ST10 := Lib.hid hR
                clear hR
                refine hK.out _ _ (Hq.out _ ST10.out.f) (fun hHeld => ?_)
                clear hK K
                try simp only [zP, zN, zS, zT, zU]
                refine tk 8 hHeld ?_
                have hnb := (ST10.out.nb N rfl)
                obtain ⟨s0, s1, s2, s3, s4, s5, hz, hzf⟩ := two_set hnb.1 (.slice a9 n c9) (.slice d9 m e9)
                have HC := Lib.hid (And.intro hz (And.intro ((ST10.out.f).over hzf (fun k hk => by have hk : k = N := hk; have := hnb.2; omega)) (show WdR _ (.agg #[.slice a9 n c9, .slice d9 m e9]) d from (show WdR q10 (.agg #[.slice a9 n c9, .slice d9 m e9]) d from ⟨_, _, rfl, ST10.out.r1 _ rfl, ST10.out.r2 _ rfl⟩).off hnb.1 hzf)))
                clear hnb hz hzf
                refine wpAnyH_ready (rs := [10]) (by kernel_rfl) (by simp) ?_
                refine (AllReadyH.cons (o := ?_) (by simp only [zA, zB, zC] <;> exact rfl) (fun K hK => ?_) AllReadyH.nil)
                go_simp
                refine hK.out _ _ (Hq.out _ HC.out.2.1) (fun hHeld => ?_)
                clear hK K
                try simp only [zP, zN, zS, zT, zU]
                refine yD ?_
                clear s0 s1 s2 s3 s4 s5
                generalize (World.setCell (World.setCell q10 _ _) _ _) = qe at *
                go_wp2_with fail
                go_meet
                case rel => exact ⟨N, a9, c9, d9, e9, rfl, Kp.and (Kp.row HC.out.1) (Kp.and (Kp.wd HC.out.2.2) (Kp.and (Kp.row (HKD.out _ HC.out.2.1).1) (Kp.and (Kp.row (HKD.out _ HC.out.2.1).2.1) (Kp.and (Kp.wd (HKD.out _ HC.out.2.1).2.2.1) (Kp.fp (HKD.out _ HC.out.2.1).2.2.2)))))⟩
            · go_simp
              have ST11 := Lib.hid ST1.out.b2
              refine hK.out _ _ (Hq.out _ ST11.out.f) (fun hHeld => ?_)
              clear hK K
              try simp only [zP, zN, zS, zT, zU]
              obtain ⟨g2, hg2⟩ : ∃ q, q1.heap.size = q := ⟨_, rfl⟩
              rw [hg2] at ST11 ⊢
              clear hg2
              generalize (q1.alloc (.cells #[] TV)) = q11 at *
              refine wpAnyH_ready (rs := [3, 9]) (by kernel_rfl) (by simp) ?_
              refine (AllReadyH.cons (o := ?_) (by simp only [zA, zB, zC] <;> exact rfl) (fun K hK => ?_) (AllReadyH.cons (o := ?_) (by simp only [zA, zB, zC] <;> exact rfl) (fun K hK => ?_) AllReadyH.nil))
              · refine step_app rfl _ _ TLW TLW rfl (.slice (some ⟨g1, 0, none⟩) 0 0) (.slice aw n cw) (by first | rfl | simp [Act.eval, Act.put]) (by first | rfl | simp [Act.eval, Act.put]) _ (ST11.out.a1 HVW.out HLW.out _) ?_
                rintro v12 q12 ⟨⟨a9, c9, rfl⟩, hR⟩
                rw [← HNW.out] at hR ⊢
                have ST12 := Lib.hid hR
                clear hR
                refine hK.out _ _ (Hq.out _ ST12.out.f) (fun hHeld => ?_)
                clear hK K
                try simp only [zP, zN, zS, zT, zU]
                refine wpAnyH_ready (rs := [7, 9]) (by kernel_rfl) (by simp) ?_
                refine (AllReadyH.cons (o := ?_) (by simp only [zA, zB, zC] <;> exact rfl) (fun K hK => ?_) (AllReadyH.cons (o := ?_) (by simp only [zA, zB, zC] <;> exact rfl) (fun K hK => ?_) AllReadyH.nil))
                · refine step_app rfl _ _ TLV TLV rfl (.slice (some ⟨g2, 0, none⟩) 0 0) (.slice at_ m cs) (by first | rfl | simp [Act.eval, Act.put]) (by first | rfl | simp [Act.eval, Act.put]) _ (ST12.out.a2 HVS.out HLS.out _) ?_
                  rintro v13 q13 ⟨⟨d9, e9, rfl⟩, hR⟩
                  rw [← HNS.out] at hR ⊢
                  have ST13 := Lib.hid hR
                  clear hR
                  refine hK.out _ _ (Hq.out _ ST13.out.f) (fun hHeld => ?_)
                  clear hK K
                  try simp only [zP, zN, zS, zT, zU]
                  refine tk 8 hHeld ?_
                  refine wpAnyH_ready (rs := [9]) (by kernel_rfl) (by simp) ?_
                  refine (AllReadyH.cons (o := ?_) (by simp only [zA, zB, zC] <;> exact rfl) (fun K hK => ?_) AllReadyH.nil)
                  go_simp
                  have ST14 := Lib.hid ST13.out.box
                  refine hK.out _ _ (Hq.out _ ST14.out.f) (fun hHeld => ?_)
                  clear hK K
                  try simp only [zP, zN, zS, zT, zU]
                  obtain ⟨N, hN⟩ : ∃ q, q13.heap.size = q := ⟨_, rfl⟩
                  rw [hN] at ST14 ⊢
                  clear hN
                  generalize (q13.alloc (.cells #[.slice none 0 0, .slice none 0 0] TD)) = q14 at *
                  have hnb := (ST14.out.nb N rfl)
                  obtain ⟨s0, s1, s2, s3, s4, s5, hz, hzf⟩ := two_set hnb.1 (.slice a9 n c9) (.slice d9 m e9)
                  have HC := Lib.hid (And.intro hz (And.intro ((ST14.out.f).over hzf (fun k hk => by have hk : k = N := hk; have := hnb.2; omega)) (show WdR _ (.agg #[.slice a9 n c9, .slice d9 m e9]) d from (show WdR q14 (.agg #[.slice a9 n c9, .slice d9 m e9]) d from ⟨_, _, rfl, ST14.out.r1 _ rfl, ST14.out.r2 _ rfl⟩).off hnb.1 hzf)))
                  clear hnb hz hzf
                  refine wpAnyH_ready (rs := [10]) (by kernel_rfl) (by simp) ?_
                  refine (AllReadyH.cons (o := ?_) (by simp only [zA, zB, zC] <;> exact rfl) (fun K hK => ?_) AllReadyH.nil)
                  go_simp
                  refine hK.out _ _ (Hq.out _ HC.out.2.1) (fun hHeld => ?_)
                  clear hK K
                  try simp only [zP, zN, zS, zT, zU]
                  refine yD ?_
                  clear s0 s1 s2 s3 s4 s5
                  generalize (World.setCell (World.setCell q14 _ _) _ _) = qe at *
                  go_wp2_with fail
                  go_meet
                  case rel => exact ⟨N, a9, c9, d9, e9, rfl, Kp.and (Kp.row HC.out.1) (Kp.and (Kp.wd HC.out.2.2) (Kp.and (Kp.row (HKD.out _ HC.out.2.1).1) (Kp.and (Kp.row (HKD.out _ HC.out.2.1).2.1) (Kp.and (Kp.wd (HKD.out _ HC.out.2.1).2.2.1) (Kp.fp (HKD.out _ HC.out.2.1).2.2.2)))))⟩
                · go_simp
                  have ST15 := Lib.hid ST12.out.box
                  refine hK.out _ _ (Hq.out _ ST15.out.f) (fun hHeld => ?_)
                  clear hK K
                  try simp only [zP, zN, zS, zT, zU]
                  obtain ⟨N, hN⟩ : ∃ q, q12.heap.size = q := ⟨_, rfl⟩
                  rw [hN] at ST15 ⊢
                  clear hN
                  generalize (q12.alloc (.cells #[.slice none 0 0, .slice none 0 0] TD)) = q15 at *
                  refine wpAnyH_ready (rs := [7]) (by kernel_rfl) (by simp) ?_
                  refine (AllReadyH.cons (o := ?_) (by simp only [zA, zB, zC] <;> exact rfl) (fun K hK => ?_) AllReadyH.nil)
                  refine step_app rfl _ _ TLV TLV rfl (.slice (some ⟨g2, 0, none⟩) 0 0) (.slice at_ m cs) (by first | rfl | simp [Act.eval, Act.put]) (by first | rfl | simp [Act.eval, Act.put]) _ (ST15.out.a2 HVS.out HLS.out _) ?_
                  rintro v16 q16 ⟨⟨d9, e9, rfl⟩, hR⟩
                  rw [← HNS.out] at hR ⊢
                  have ST16 := Lib.hid hR
                  clear hR
                  refine hK.out _ _ (Hq.out _ ST16.out.f) (fun hHeld => ?_)
                  clear hK K
                  try simp only [zP, zN, zS, zT, zU]
                  refine tk 8 hHeld ?_
                  have hnb := (ST16.out.nb N rfl)
                  obtain ⟨s0, s1, s2, s3, s4, s5, hz, hzf⟩ := two_set hnb.1 (.slice a9 n c9) (.slice d9 m e9)
                  have HC := Lib.hid (And.intro hz (And.intro ((ST16.out.f).over hzf (fun k hk => by have hk : k = N := hk; have := hnb.2; omega)) (show WdR _ (.agg #[.slice a9 n c9, .slice d9 m e9]) d from (show WdR q16 (.agg #[.slice a9 n c9, .slice d9 m e9]) d from ⟨_, _, rfl, ST16.out.r1 _ rfl, ST16.out.r2 _ rfl⟩).off hnb.1 hzf)))
                  clear hnb hz hzf
                  refine wpAnyH_ready (rs := [10]) (by kernel_rfl) (by simp) ?_
                  refine (AllReadyH.cons (o := ?_) (by simp only [zA, zB, zC] <;> exact rfl) (fun K hK => ?_) AllReadyH.nil)
                  go_simp
                  refine hK.out _ _ (Hq.out _ HC.out.2.1) (fun hHeld => ?_)
                  clear hK K
                  try simp only [zP, zN, zS, zT, zU]
                  refine yD ?_
                  clear s0 s1 s2 s3 s4 s5
                  generalize (World.setCell (World.setCell q16 _ _) _ _) = qe at *
                  go_wp2_with fail
                  go_meet
                  case rel => exact ⟨N, a9, c9, d9, e9, rfl, Kp.and (Kp.row HC.out.1) (Kp.and (Kp.wd HC.out.2.2) (Kp.and (Kp.row (HKD.out _ HC.out.2.1).1) (Kp.and (Kp.row (HKD.out _ HC.out.2.1).2.1) (Kp.and (Kp.wd (HKD.out _ HC.out.2.1).2.2.1) (Kp.fp (HKD.out _ HC.out.2.1).2.2.2)))))⟩
              · go_simp
                have ST17 := Lib.hid ST11.out.box
                refine hK.out _ _ (Hq.out _ ST17.out.f) (fun hHeld => ?_)
                clear hK K
                try simp only [zP, zN, zS, zT, zU]
                obtain ⟨N, hN⟩ : ∃ q, q11.heap.size = q := ⟨_, rfl⟩
                rw [hN] at ST17 ⊢
                clear hN
                generalize (q11.alloc (.cells #[.slice none 0 0, .slice none 0 0] TD)) = q17 at *
                refine wpAnyH_ready (rs := [3]) (by kernel_rfl) (by simp) ?_
                refine (AllReadyH.cons (o := ?_) (by simp only [zA, zB, zC] <;> exact rfl) (fun K hK => ?_) AllReadyH.nil)
                refine step_app rfl _ _ TLW TLW rfl (.slice (some ⟨g1, 0, none⟩) 0 0) (.slice aw n cw) (by first | rfl | simp [Act.eval, Act.put]) (by first | rfl | simp [Act.eval, Act.put]) _ (ST17.out.a1 HVW.out HLW.out _) ?_
                rintro v18 q18 ⟨⟨a9, c9, rfl⟩, hR⟩
                rw [← HNW.out] at hR ⊢
                have ST18 := Lib.hid hR
                clear hR
                refine hK.out _ _ (Hq.out _ ST18.out.f) (fun hHeld => ?_)
                clear hK K
                try simp only [zP, zN, zS, zT, zU]
                refine wpAnyH_ready (rs := [7]) (by kernel_rfl) (by simp) ?_
                refine (AllReadyH.cons (o := ?_) (by simp only [zA, zB, zC] <;> exact rfl) (fun K hK => ?_) AllReadyH.nil)
                refine step_app rfl _ _ TLV TLV rfl (.slice (some ⟨g2, 0, none⟩) 0 0) (.slice at_ m cs) (by first | rfl | simp [Act.eval, Act.put]) (by first | rfl | simp [Act.eval, Act.put]) _ (ST18.out.a2 HVS.out HLS.out _) ?_
                rintro v19 q19 ⟨⟨d9, e9, rfl⟩, hR⟩
                rw [← HNS.out] at hR ⊢
                have ST19 := Lib.hid hR
                clear hR
                refine hK.out _ _ (Hq.out _ ST19.out.f) (fun hHeld => ?_)
                clear hK K
                try simp only [zP, zN, zS, zT, zU]
                refine tk 8 hHeld ?_
                have hnb := (ST19.out.nb N rfl)
                obtain ⟨s0, s1, s2, s3, s4, s5, hz, hzf⟩ := two_set hnb.1 (.slice a9 n c9) (.slice d9 m e9)
                have HC := Lib.hid (And.intro hz (And.intro ((ST19.out.f).over hzf (fun k hk => by have hk : k = N := hk; have := hnb.2; omega)) (show WdR _ (.agg #[.slice a9 n c9, .slice d9 m e9]) d from (show WdR q19 (.agg #[.slice a9 n c9, .slice d9 m e9]) d from ⟨_, _, rfl, ST19.out.r1 _ rfl, ST19.out.r2 _ rfl⟩).off hnb.1 hzf)))
                clear hnb hz hzf
                refine wpAnyH_ready (rs := [10]) (by kernel_rfl) (by simp) ?_
                refine (AllReadyH.cons (o := ?_) (by simp only [zA, zB, zC] <;> exact rfl) (fun K hK => ?_) AllReadyH.nil)
                go_simp
                refine hK.out _ _ (Hq.out _ HC.out.2.1) (fun hHeld => ?_)
                clear hK K
                try simp only [zP, zN, zS, zT, zU]
                refine yD ?_
                clear s0 s1 s2 s3 s4 s5
                generalize (World.setCell (World.setCell q19 _ _) _ _) = qe at *
                go_wp2_with fail
                go_meet
                case rel => exact ⟨N, a9, c9, d9, e9, rfl, Kp.and (Kp.row HC.out.1) (Kp.and (Kp.wd HC.out.2.2) (Kp.and (Kp.row (HKD.out _ HC.out.2.1).1) (Kp.and (Kp.row (HKD.out _ HC.out.2.1).2.1) (Kp.and (Kp.wd (HKD.out _ HC.out.2.1).2.2.1) (Kp.fp (HKD.out _ HC.out.2.1).2.2.2)))))⟩
            · go_simp
              have ST20 := Lib.hid ST1.out.box
              refine hK.out _ _ (Hq.out _ ST20.out.f) (fun hHeld => ?_)
              clear hK K
              try simp only [zP, zN, zS, zT, zU]
              obtain ⟨N, hN⟩ : ∃ q, q1.heap.size = q := ⟨_, rfl⟩
              rw [hN] at ST20 ⊢
              clear hN
              generalize (q1.alloc (.cells #[.slice none 0 0, .slice none 0 0] TD)) = q20 at *
              refine wpAnyH_ready (rs := [3, 4]) (by kernel_rfl) (by simp) ?_
              refine (AllReadyH.cons (o := ?_) (by simp only [zA, zB, zC] <;> exact rfl) (fun K hK => ?_) (AllReadyH.cons (o := ?_) (by simp only [zA, zB, zC] <;> exact rfl) (fun K hK => ?_) AllReadyH.nil))
              · refine step_app rfl _ _ TLW TLW rfl (.slice (some ⟨g1, 0, none⟩) 0 0) (.slice aw n cw) (by first | rfl | simp [Act.eval, Act.put]) (by first | rfl | simp [Act.eval, Act.put]) _ (ST20.out.a1 HVW.out HLW.out _) ?_
                rintro v21 q21 ⟨⟨a9, c9, rfl⟩, hR⟩
                rw [← HNW.out] at hR ⊢
                have ST21 := Lib.hid hR
                clear hR
                refine hK.out _ _ (Hq.out _ ST21.out.f) (fun hHeld => ?_)
                clear hK K
                try simp only [zP, zN, zS, zT, zU]
                refine wpAnyH_ready (rs := [4]) (by kernel_rfl) (by simp) ?_
                refine (AllReadyH.cons (o := ?_) (by simp only [zA, zB, zC] <;> exact rfl) (fun K hK => ?_) AllReadyH.nil)
                go_simp
                have ST22 := Lib.hid ST21.out.b2
                refine hK.out _ _ (Hq.out _ ST22.out.f) (fun hHeld => ?_)
                clear hK K
                try simp only [zP, zN, zS, zT, zU]
                obtain ⟨g2, hg2⟩ : ∃ q, q21.heap.size = q := ⟨_, rfl⟩
                rw [hg2] at ST22 ⊢
                clear hg2
                generalize (q21.alloc (.cells #[] TV)) = q22 at *
                refine wpAnyH_ready (rs := [7]) (by kernel_rfl) (by simp) ?_
                refine (AllReadyH.cons (o := ?_) (by simp only [zA, zB, zC] <;> exact rfl) (fun K hK => ?_) AllReadyH.nil)
                refine step_app rfl _ _ TLV TLV rfl (.slice (some ⟨g2, 0, none⟩) 0 0) (.slice at_ m cs) (by first | rfl | simp [Act.eval, Act.put]) (by first | rfl | simp [Act.eval, Act.put]) _ (ST22.out.a2 HVS.out HLS.out _) ?_
                rintro v23 q23 ⟨⟨d9, e9, rfl⟩, hR⟩
                rw [← HNS.out] at hR ⊢
                have ST23 := Lib.hid hR
                clear hR
                refine hK.out _ _ (Hq.out _ ST23.out.f) (fun hHeld => ?_)
                clear hK K
                try simp only [zP, zN, zS, zT, zU]
                refine tk 8 hHeld ?_
                have hnb := (ST23.out.nb N rfl)
                obtain ⟨s0, s1, s2, s3, s4, s5, hz, hzf⟩ := two_set hnb.1 (.slice a9 n c9) (.slice d9 m e9)
                have HC := Lib.hid (And.intro hz (And.intro ((ST23.out.f).over hzf (fun k hk => by have hk : k = N := hk; have := hnb.2; omega)) (show WdR _ (.agg #[.slice a9 n c9, .slice d9 m e9]) d from (show WdR q23 (.agg #[.slice a9 n c9, .slice d9 m e9]) d from ⟨_, _, rfl, ST23.out.r1 _ rfl, ST23.out.r2 _ rfl⟩).off hnb.1 hzf)))
                clear hnb hz hzf
                refine wpAnyH_ready (rs := [10]) (by kernel_rfl) (by simp) ?_
                refine (AllReadyH.cons (o := ?_) (by simp only [zA, zB, zC] <;> exact rfl) (fun K hK => ?_) AllReadyH.nil)
                go_simp
                refine hK.out _ _ (Hq.out _ HC.out.2.1) (fun hHeld => ?_)
                clear hK K
                try simp only [zP, zN, zS, zT, zU]
                refine yD ?_
                clear s0 s1 s2 s3 s4 s5
                generalize (World.setCell (World.setCell q23 _ _) _ _) = qe at *
                go_wp2_with fail
                go_meet
                case rel => exact ⟨N, a9, c9, d9, e9, rfl, Kp.and (Kp.row HC.out.1) (Kp.and (Kp.wd HC.out.2.2) (Kp.and (Kp.row (HKD.out _ HC.out.2.1).1) (Kp.and (Kp.row (HKD.out _ HC.out.2.1).2.1) (Kp.and (Kp.wd (HKD.out _ HC.out.2.1).2.2.1) (Kp.fp (HKD.out _ HC.out.2.1).2.2.2)))))⟩
              · go_simp
                have ST24 := Lib.hid ST20.out.b2
                refine hK.out _ _ (Hq.out _ ST24.out.f) (fun hHeld => ?_)
                clear hK K
                try simp only [zP, zN, zS, zT, zU]
                obtain ⟨g2, hg2⟩ : ∃ q, q20.heap.size = q := ⟨_, rfl⟩
                rw [hg2] at ST24 ⊢
                clear hg2
                generalize (q20.alloc (.cells #[] TV)) = q24 at *
                refine wpAnyH_ready (rs := [3]) (by kernel_rfl) (by simp) ?_
                refine (AllReadyH.cons (o := ?_) (by simp only [zA, zB, zC] <;> exact rfl) (fun K hK => ?_) AllReadyH.nil)
                refine step_app rfl _ _ TLW TLW rfl (.slice (some ⟨g1, 0, none⟩) 0 0) (.slice aw n cw) (by first | rfl | simp [Act.eval, Act.put]) (by first | rfl | simp [Act.eval, Act.put]) _ (ST24.out.a1 HVW.out HLW.out _) ?_
                rintro v25 q25 ⟨⟨a9, c9, rfl⟩, hR⟩
                rw [← HNW.out] at hR ⊢
                have ST25 := Lib.hid hR
                clear hR
                refine hK.out _ _ (Hq.out _ ST25.out.f) (fun hHeld => ?_)
                clear hK K
                try simp only [zP, zN, zS, zT, zU]
                refine wpAnyH_ready (rs := [7]) (by kernel_rfl) (by simp) ?_
                refine (AllReadyH.cons (o := ?_) (by simp only [zA, zB, zC] <;> exact rfl) (fun K hK => ?_) AllReadyH.nil)
                refine step_app rfl _ _ TLV TLV rfl (.slice (some ⟨g2, 0, none⟩) 0 0) (.slice at_ m cs) (by first | rfl | simp [Act.eval, Act.put]) (by first | rfl | simp [Act.eval, Act.put]) _ (ST25.out.a2 HVS.out HLS.out _) ?_
                rintro v26 q26 ⟨⟨d9, e9, rfl⟩, hR⟩
                rw [← HNS.out] at hR ⊢
                have ST26 := Lib.hid hR
                clear hR
                refine hK.out _ _ (Hq.out _ ST26.out.f) (fun hHeld => ?_)
                clear hK K
                try simp only [zP, zN, zS, zT, zU]
                refine tk 8 hHeld ?_
                have hnb := (ST26.out.nb N rfl)
                obtain ⟨s0, s1, s2, s3, s4, s5, hz, hzf⟩ := two_set hnb.1 (.slice a9 n c9) (.slice d9 m e9)
                have HC := Lib.hid (And.intro hz (And.intro ((ST26.out.f).over hzf (fun k hk => by have hk : k = N := hk; have := hnb.2; omega)) (show WdR _ (.agg #[.slice a9 n c9, .slice d9 m e9]) d from (show WdR q26 (.agg #[.slice a9 n c9, .slice d9 m e9]) d from ⟨_, _, rfl, ST26.out.r1 _ rfl, ST26.out.r2 _ rfl⟩).off hnb.1 hzf)))
                clear hnb hz hzf
                refine wpAnyH_ready (rs := [10]) (by kernel_rfl) (by simp) ?_
                refine (AllReadyH.cons (o := ?_) (by simp only [zA, zB, zC] <;> exact rfl) (fun K hK => ?_) AllReadyH.nil)
                go_simp
                refine hK.out _ _ (Hq.out _ HC.out.2.1) (fun hHeld => ?_)
                clear hK K
                try simp only [zP, zN, zS, zT, zU]
                refine yD ?_
                clear s0 s1 s2 s3 s4 s5
                generalize (World.setCell (World.setCell q26 _ _) _ _) = qe at *
                go_wp2_with fail
                go_meet
                case rel => exact ⟨N, a9, c9, d9, e9, rfl, Kp.and (Kp.row HC.out.1) (Kp.and (Kp.wd HC.out.2.2) (Kp.and (Kp.row (HKD.out _ HC.out.2.1).1) (Kp.and (Kp.row (HKD.out _ HC.out.2.1).2.1) (Kp.and (Kp.wd (HKD.out _ HC.out.2.1).2.2.1) (Kp.fp (HKD.out _ HC.out.2.1).2.2.2)))))⟩
          · go_simp
            have ST27 := Lib.hid ST0.out.b2
            refine hK.out _ _ (Hq.out _ ST27.out.f) (fun hHeld => ?_)
            clear hK K
            try simp only [zP, zN, zS, zT, zU]
            obtain ⟨g2, hg2⟩ : ∃ q, q0.heap.size = q := ⟨_, rfl⟩
            rw [hg2] at ST27 ⊢
            clear hg2
            generalize (q0.alloc (.cells #[] TV)) = q27 at *
            refine wpAnyH_ready (rs := [0, 9]) (by kernel_rfl) (by simp) ?_
            refine (AllReadyH.cons (o := ?_) (by simp only [zA, zB, zC] <;> exact rfl) (fun K hK => ?_) (AllReadyH.cons (o := ?_) (by simp only [zA, zB, zC] <;> exact rfl) (fun K hK => ?_) AllReadyH.nil))
            · go_simp
              have ST28 := Lib.hid ST27.out.b1
              refine hK.out _ _ (Hq.out _ ST28.out.f) (fun hHeld => ?_)
              clear hK K
              try simp only [zP, zN, zS, zT, zU]
              obtain ⟨g1, hg1⟩ : ∃ q, q27.heap.size = q := ⟨_, rfl⟩
              rw [hg1] at ST28 ⊢
              clear hg1
              generalize (q27.alloc (.cells #[] TW)) = q28 at *
              refine wpAnyH_ready (rs := [3, 9]) (by kernel_rfl) (by simp) ?_
              refine (AllReadyH.cons (o := ?_) (by simp only [zA, zB, zC] <;> exact rfl) (fun K hK => ?_) (AllReadyH.cons (o := ?_) (by simp only [zA, zB, zC] <;> exact rfl) (fun K hK => ?_) AllReadyH.nil))
              · refine step_app rfl _ _ TLW TLW rfl (.slice (some ⟨g1, 0, none⟩) 0 0) (.slice aw n cw) (by first | rfl | simp [Act.eval, Act.put]) (by first | rfl | simp [Act.eval, Act.put]) _ (ST28.out.a1 HVW.out HLW.out _) ?_
                rintro v29 q29 ⟨⟨a9, c9, rfl⟩, hR⟩
                rw [← HNW.out] at hR ⊢
                have ST29 := Lib.hid hR
                clear hR
                refine hK.out _ _ (Hq.out _ ST29.out.f) (fun hHeld => ?_)
                clear hK K
                try simp only [zP, zN, zS, zT, zU]
                refine wpAnyH_ready (rs := [7, 9]) (by kernel_rfl) (by simp) ?_
                refine (AllReadyH.cons (o := ?_) (by simp only [zA, zB, zC] <;> exact rfl) (fun K hK => ?_) (AllReadyH.cons (o := ?_) (by simp only [zA, zB, zC] <;> exact rfl) (fun K hK => ?_) AllReadyH.nil))
                · refine step_app rfl _ _ TLV TLV rfl (.slice (some ⟨g2, 0, none⟩) 0 0) (.slice at_ m cs) (by first | rfl | simp [Act.eval, Act.put]) (by first | rfl | simp [Act.eval, Act.put]) _ (ST29.out.a2 HVS.out HLS.out _) ?_
                  rintro v30 q30 ⟨⟨d9, e9, rfl⟩, hR⟩
                  rw [← HNS.out] at hR ⊢
                  have ST30 := Lib.hid hR
                  clear hR
                  refine hK.out _ _ (Hq.out _ ST30.out.f) (fun hHeld => ?_)
                  clear hK K
                  try simp only [zP, zN, zS, zT, zU]
                  refine tk 8 hHeld ?_
                  refine wpAnyH_ready (rs := [9]) (by kernel_rfl) (by simp) ?_
                  refine (AllReadyH.cons (o := ?_) (by simp only [zA, zB, zC] <;> exact rfl) (fun K hK => ?_) AllReadyH.nil)
                  go_simp
                  have ST31 := Lib.hid ST30.out.box
                  refine hK.out _ _ (Hq.out _ ST31.out.f) (fun hHeld => ?_)
                  clear hK K
                  try simp only [zP, zN, zS, zT, zU]
                  obtain ⟨N, hN⟩ : ∃ q, q30.heap.size = q := ⟨_, rfl⟩
                  rw [hN] at ST31 ⊢
                  clear hN
                  generalize (q30.alloc (.cells #[.slice none 0 0, .slice none 0 0] TD)) = q31 at *
                  have hnb := (ST31.out.nb N rfl)
                  obtain ⟨s0, s1, s2, s3, s4, s5, hz, hzf⟩ := two_set hnb.1 (.slice a9 n c9) (.slice d9 m e9)
                  have HC := Lib.hid (And.intro hz (And.intro ((ST31.out.f).over hzf (fun k hk => by have hk : k = N := hk; have := hnb.2; omega)) (show WdR _ (.agg #[.slice a9 n c9, .slice d9 m e9]) d from (show WdR q31 (.agg #[.slice a9 n c9, .slice d9 m e9]) d from ⟨_, _, rfl, ST31.out.r1 _ rfl, ST31.out.r2 _ rfl⟩).off hnb.1 hzf)))
                  clear hnb hz hzf
                  refine wpAnyH_ready (rs := [10]) (by kernel_rfl) (by simp) ?_
                  refine (AllReadyH.cons (o := ?_) (by simp only [zA, zB, zC] <;> exact rfl) (fun K hK => ?_) AllReadyH.nil)
                  go_simp
                  refine hK.out _ _ (Hq.out _ HC.out.2.1) (fun hHeld => ?_)
                  clear hK K
                  try simp only [zP, zN, zS, zT, zU]
                  refine yD ?_
                  clear s0 s1 s2 s3 s4 s5
                  generalize (World.setCell (World.setCell q31 _ _) _ _) = qe at *
                  go_wp2_with fail
                  go_meet
                  case rel => exact ⟨N, a9, c9, d9, e9, rfl, Kp.and (Kp.row HC.out.1) (Kp.and (Kp.wd HC.out.2.2) (Kp.and (Kp.row (HKD.out _ HC.out.2.1).1) (Kp.and (Kp.row (HKD.out _ HC.out.2.1).2.1) (Kp.and (Kp.wd (HKD.out _ HC.out.2.1).2.2.1) (Kp.fp (HKD.out _ HC.out.2.1).2.2.2)))))⟩
                · go_simp
                  have ST32 := Lib.hid ST29.out.box
                  refine hK.out _ _ (Hq.out _ ST32.out.f) (fun hHeld => ?_)
                  clear hK K
                  try simp only [zP, zN, zS, zT, zU]
                  obtain ⟨N, hN⟩ : ∃ q, q29.heap.size = q := ⟨_, rfl⟩
                  rw [hN] at ST32 ⊢
                  clear hN
                  generalize (q29.alloc (.cells #[.slice none 0 0, .slice none 0 0] TD)) = q32 at *
                  refine wpAnyH_ready (rs := [7]) (by kernel_rfl) (by simp) ?_
                  refine (AllReadyH.cons (o := ?_) (by simp only [zA, zB, zC] <;> exact rfl) (fun K hK => ?_) AllReadyH.nil)
                  refine step_app rfl _ _ TLV TLV rfl (.slice (some ⟨g2, 0, none⟩) 0 0) (.slice at_ m cs) (by first | rfl | simp [Act.eval, Act.put]) (by first | rfl | simp [Act.eval, Act.put]) _ (ST32.out.a2 HVS.out HLS.out _) ?_
                  rintro v33 q33 ⟨⟨d9, e9, rfl⟩, hR⟩
                  rw [← HNS.out] at hR ⊢
                  have ST33 := Lib.hid hR
                  clear hR
                  refine hK.out _ _ (Hq.out _ ST33.out.f) (fun hHeld => ?_)
                  clear hK K
                  try simp only [zP, zN, zS, zT, zU]
                  refine tk 8 hHeld ?_
                  have hnb := (ST33.out.nb N rfl)
                  obtain ⟨s0, s1, s2, s3, s4, s5, hz, hzf⟩ := two_set hnb.1 (.slice a9 n c9) (.slice d9 m e9)
                  have HC := Lib.hid (And.intro hz (And.intro ((ST33.out.f).over hzf (fun k hk => by have hk : k = N := hk; have := hnb.2; omega)) (show WdR _ (.agg #[.slice a9 n c9, .slice d9 m e9]) d from (show WdR q33 (.agg #[.slice a9 n c9, .slice d9 m e9]) d from ⟨_, _, rfl, ST33.out.r1 _ rfl, ST33.out.r2 _ rfl⟩).off hnb.1 hzf)))
                  clear hnb hz hzf
                  refine wpAnyH_ready (rs := [10]) (by kernel_rfl) (by simp) ?_
                  refine (AllReadyH.cons (o := ?_) (by simp only [zA, zB, zC] <;> exact rfl) (fun K hK => ?_) AllReadyH.nil)
                  go_simp
                  refine hK.out _ _ (Hq.out _ HC.out.2.1) (fun hHeld => ?_)
                  clear hK K
                  try simp only [zP, zN, zS, zT, zU]
                  refine yD ?_
                  clear s0 s1 s2 s3 s4 s5
                  generalize (World.setCell (World.setCell q33 _ _) _ _) = qe at *
                  go_wp2_with fail
                  go_meet
                  case rel => exact ⟨N, a9, c9, d9, e9, rfl, Kp.and (Kp.row HC.out.1) (Kp.and (Kp.wd HC.out.2.2) (Kp.and (Kp.row (HKD.out _ HC.out.2.1).1) (Kp.and (Kp.row (HKD.out _ HC.out.2.1).2.1) (Kp.and (Kp.wd (HKD.out _ HC.out.2.1).2.2.1) (Kp.fp (HKD.out _ HC.out.2.1).2.2.2)))))⟩
              · go_simp
                have ST34 := Lib.hid ST28.out.box
                refine hK.out _ _ (Hq.out _ ST34.out.f) (fun hHeld => ?_)
                clear hK K
                try simp only [zP, zN, zS, zT, zU]
                obtain ⟨N, hN⟩ : ∃ q, q28.heap.size = q := ⟨_, rfl⟩
                rw [hN] at ST34 ⊢
                clear hN
                generalize (q28.alloc (.cells #[.slice none 0 0, .slice none 0 0] TD)) = q34 at *
                refine wpAnyH_ready (rs := [3]) (by kernel_rfl) (by simp) ?_
                refine (AllReadyH.cons (o := ?_) (by simp only [zA, zB, zC] <;> exact rfl) (fun K hK => ?_) AllReadyH.nil)
                refine step_app rfl _ _ TLW TLW rfl (.slice (some ⟨g1, 0, none⟩) 0 0) (.slice aw n cw) (by first | rfl | simp [Act.eval, Act.put]) (by first | rfl | simp [Act.eval, Act.put]) _ (ST34.out.a1 HVW.out HLW.out _) ?_
                rintro v35 q35 ⟨⟨a9, c9, rfl⟩, hR⟩
                rw [← HNW.out] at hR ⊢
                have ST35 := Lib.hid hR
                clear hR
                refine hK.out _ _ (Hq.out _ ST35.out.f) (fun hHeld => ?_)
                clear hK K
                try simp only [zP, zN, zS, zT, zU]
                refine wpAnyH_ready (rs := [7]) (by kernel_rfl) (by simp) ?_
                refine (AllReadyH.cons (o := ?_) (by simp only [zA, zB, zC] <;> exact rfl) (fun K hK => ?_) AllReadyH.nil)
                refine step_app rfl _ _ TLV TLV rfl (.slice (some ⟨g2, 0, none⟩) 0 0) (.slice at_ m cs) (by first | rfl | simp [Act.eval, Act.put]) (by first | rfl | simp [Act.eval, Act.put]) _ (ST35.out.a2 HVS.out HLS.out _) ?_
                rintro v36 q36 ⟨⟨d9, e9, rfl⟩, hR⟩
                rw [← HNS.out] at hR ⊢
                have ST36 := Lib.hid hR
                clear hR
                refine hK.out _ _ (Hq.out _ ST36.out.f) (fun hHeld => ?_)
                clear hK K
                try simp only [zP, zN, zS, zT, zU]
                refine tk 8 hHeld ?_
                have hnb := (ST36.out.nb N rfl)
                obtain ⟨s0, s1, s2, s3, s4, s5, hz, hzf⟩ := two_set hnb.1 (.slice a9 n c9) (.slice d9 m e9)
                have HC := Lib.hid (And.intro hz (And.intro ((ST36.out.f).over hzf (fun k hk => by have hk : k = N := hk; have := hnb.2; omega)) (show WdR _ (.agg #[.slice a9 n c9, .slice d9 m e9]) d from (show WdR q36 (.agg #[.slice a9 n c9, .slice d9 m e9]) d from ⟨_, _, rfl, ST36.out.r1 _ rfl, ST36.out.r2 _ rfl⟩).off hnb.1 hzf)))
                clear hnb hz hzf
                refine wpAnyH_ready (rs := [10]) (by kernel_rfl) (by simp) ?_
                refine (AllReadyH.cons (o := ?_) (by simp only [zA, zB, zC] <;> exact rfl) (fun K hK => ?_) AllReadyH.nil)
                go_simp
                refine hK.out _ _ (Hq.out _ HC.out.2.1) (fun hHeld => ?_)
                clear hK K
                try simp only [zP, zN, zS, zT, zU]
                refine yD ?_
                clear s0 s1 s2 s3 s4 s5
                generalize (World.setCell (World.setCell q36 _ _) _ _) = qe at *
                go_wp2_with fail
                go_meet
                case rel => exact ⟨N, a9, c9, d9, e9, rfl, Kp.and (Kp.row HC.out.1) (Kp.and (Kp.wd HC.out.2.2) (Kp.and (Kp.row (HKD.out _ HC.out.2.1).1) (Kp.and (Kp.row (HKD.out _ HC.out.2.1).2.1) (Kp.and (Kp.wd (HKD.out _ HC.out.2.1).2.2.1) (Kp.fp (HKD.out _ HC.out.2.1).2.2.2)))))⟩
            · go_simp
              have ST37 := Lib.hid ST27.out.box
              refine hK.out _ _ (Hq.out _ ST37.out.f) (fun hHeld => ?_)
              clear hK K
              try simp only [zP, zN, zS, zT, zU]
              obtain ⟨N, hN⟩ : ∃ q, q27.heap.size = q := ⟨_, rfl⟩
              rw [hN] at ST37 ⊢
              clear hN
              generalize (q27.alloc (.cells #[.slice none 0 0, .slice none 0 0] TD)) = q37 at *
              refine wpAnyH_ready (rs := [0]) (by kernel_rfl) (by simp) ?_
              refine (AllReadyH.cons (o := ?_) (by simp only [zA, zB, zC] <;> exact rfl) (fun K hK => ?_) AllReadyH.nil)
              go_simp
              have ST38 := Lib.hid ST37.out.b1
              refine hK.out _ _ (Hq.out _ ST38.out.f) (fun hHeld => ?_)
              clear hK K
              try simp only [zP, zN, zS, zT, zU]
              obtain ⟨g1, hg1⟩ : ∃ q, q37.heap.size = q := ⟨_, rfl⟩
              rw [hg1] at ST38 ⊢
              clear hg1
              generalize (q37.alloc (.cells #[] TW)) = q38 at *
              refine wpAnyH_ready (rs := [3]) (by kernel_rfl) (by simp) ?_
              refine (AllReadyH.cons (o := ?_) (by simp only [zA, zB, zC] <;> exact rfl) (fun K hK => ?_) AllReadyH.nil)
              refine step_app rfl _ _ TLW TLW rfl (.slice (some ⟨g1, 0, none⟩) 0 0) (.slice aw n cw) (by first | rfl | simp [Act.eval, Act.put]) (by first | rfl | simp [Act.eval, Act.put]) _ (ST38.out.a1 HVW.out HLW.out _) ?_
              rintro v39 q39 ⟨⟨a9, c9, rfl⟩, hR⟩
              rw [← HNW.out] at hR ⊢
              have ST39 := Lib.hid hR
              clear hR
              refine hK.out _ _ (Hq.out _ ST39.out.f) (fun hHeld => ?_)
              clear hK K
              try simp only [zP, zN, zS, zT, zU]
              refine wpAnyH_ready (rs := [7]) (by kernel_rfl) (by simp) ?_
              refine (AllReadyH.cons (o := ?_) (by simp only [zA, zB, zC] <;> exact rfl) (fun K hK => ?_) AllReadyH.nil)
              refine step_app rfl _ _ TLV TLV rfl (.slice (some ⟨g2, 0, none⟩) 0 0) (.slice at_ m cs) (by first | rfl | simp [Act.eval, Act.put]) (by first | rfl | simp [Act.eval, Act.put]) _ (ST39.out.a2 HVS.out HLS.out _) ?_
              rintro v40 q40 ⟨⟨d9, e9, rfl⟩, hR⟩
              rw [← HNS.out] at hR ⊢
              have ST40 := Lib.hid hR
              clear hR
              refine hK.out _ _ (Hq.out _ ST40.out.f) (fun hHeld => ?_)
              clear hK K
              try simp only [zP, zN, zS, zT, zU]
              refine tk 8 hHeld ?_
              have hnb := (ST40.out.nb N rfl)
              obtain ⟨s0, s1, s2, s3, s4, s5, hz, hzf⟩ := two_set hnb.1 (.slice a9 n c9) (.slice d9 m e9)
              have HC := Lib.hid (And.intro hz (And.intro ((ST40.out.f).over hzf (fun k hk => by have hk : k = N := hk; have := hnb.2; omega)) (show WdR _ (.agg #[.slice a9 n c9, .slice d9 m e9]) d from (show WdR q40 (.agg #[.slice a9 n c9, .slice d9 m e9]) d from ⟨_, _, rfl, ST40.out.r1 _ rfl, ST40.out.r2 _ rfl⟩).off hnb.1 hzf)))
              clear hnb hz hzf
              refine wpAnyH_ready (rs := [10]) (by kernel_rfl) (by simp) ?_
              refine (AllReadyH.cons (o := ?_) (by simp only [zA, zB, zC] <;> exact rfl) (fun K hK => ?_) AllReadyH.nil)
              go_simp
              refine hK.out _ _ (Hq.out _ HC.out.2.1) (fun hHeld => ?_)
              clear hK K
              try simp only [zP, zN, zS, zT, zU]
              refine yD ?_
              clear s0 s1 s2 s3 s4 s5
              generalize (World.setCell (World.setCell q40 _ _) _ _) = qe at *
              go_wp2_with fail
              go_meet
              case rel => exact ⟨N, a9, c9, d9, e9, rfl, Kp.and (Kp.row HC.out.1) (Kp.and (Kp.wd HC.out.2.2) (Kp.and (Kp.row (HKD.out _ HC.out.2.1).1) (Kp.and (Kp.row (HKD.out _ HC.out.2.1).2.1) (Kp.and (Kp.wd (HKD.out _ HC.out.2.1).2.2.1) (Kp.fp (HKD.out _ HC.out.2.1).2.2.2)))))⟩
          · go_simp
            have ST41 := Lib.hid ST0.out.box
            refine hK.out _ _ (Hq.out _ ST41.out.f) (fun hHeld => ?_)
            clear hK K
            try simp only [zP, zN, zS, zT, zU]
            obtain ⟨N, hN⟩ : ∃ q, q0.heap.size = q := ⟨_, rfl⟩
            rw [hN] at ST41 ⊢
            clear hN
            generalize (q0.alloc (.cells #[.slice none 0 0, .slice none 0 0] TD)) = q41 at *
            refine wpAnyH_ready (rs := [0, 4]) (by kernel_rfl) (by simp) ?_
            refine (AllReadyH.cons (o := ?_) (by simp only [zA, zB, zC] <;> exact rfl) (fun K hK => ?_) (AllReadyH.cons (o := ?_) (by simp only [zA, zB, zC] <;> exact rfl) (fun K hK => ?_) AllReadyH.nil))
            · go_simp
              have ST42 := Lib.hid ST41.out.b1
              refine hK.out _ _ (Hq.out _ ST42.out.f) (fun hHeld => ?_)
              clear hK K
              try simp only [zP, zN, zS, zT, zU]
              obtain ⟨g1, hg1⟩ : ∃ q, q41.heap.size = q := ⟨_, rfl⟩
              rw [hg1] at ST42 ⊢
              clear hg1
              generalize (q41.alloc (.cells #[] TW)) = q42 at *
              refine wpAnyH_ready (rs := [3, 4]) (by kernel_rfl) (by simp) ?_
              refine (AllReadyH.cons (o := ?_) (by simp only [zA, zB, zC] <;> exact rfl) (fun K hK => ?_) (AllReadyH.cons (o := ?_) (by simp only [zA, zB, zC] <;> exact rfl) (fun K hK => ?_) AllReadyH.nil))
              · refine step_app rfl _ _ TLW TLW rfl (.slice (some ⟨g1, 0, none⟩) 0 0) (.slice aw n cw) (by first | rfl | simp [Act.eval, Act.put]) (by first | rfl | simp [Act.eval, Act.put]) _ (ST42.out.a1 HVW.out HLW.out _) ?_
                rintro v43 q43 ⟨⟨a9, c9, rfl⟩, hR⟩
                rw [← HNW.out] at hR ⊢
                have ST43 := Lib.hid hR
                clear hR
                refine hK.out _ _ (Hq.out _ ST43.out.f) (fun hHeld => ?_)
                clear hK K
                try simp only [zP, zN, zS, zT, zU]
                refine wpAnyH_ready (rs := [4]) (by kernel_rfl) (by simp) ?_
                refine (AllReadyH.cons (o := ?_) (by simp only [zA, zB, zC] <;> exact rfl) (fun K hK => ?_) AllReadyH.nil)
                go_simp
                have ST44 := Lib.hid ST43.out.b2
                refine hK.out _ _ (Hq.out _ ST44.out.f) (fun hHeld => ?_)
                clear hK K
                try simp only [zP, zN, zS, zT, zU]
                obtain ⟨g2, hg2⟩ : ∃ q, q43.heap.size = q := ⟨_, rfl⟩
                rw [hg2] at ST44 ⊢
                clear hg2
                generalize (q43.alloc (.cells #[] TV)) = q44 at *
                refine wpAnyH_ready (rs := [7]) (by kernel_rfl) (by simp) ?_
                refine (AllReadyH.cons (o := ?_) (by simp only [zA, zB, zC] <;> exact rfl) (fun K hK => ?_) AllReadyH.nil)
                refine step_app rfl _ _ TLV TLV rfl (.slice (some ⟨g2, 0, none⟩) 0 0) (.slice at_ m cs) (by first | rfl | simp [Act.eval, Act.put]) (by first | rfl | simp [Act.eval, Act.put]) _ (ST44.out.a2 HVS.out HLS.out _) ?_
                rintro v45 q45 ⟨⟨d9, e9, rfl⟩, hR⟩
                rw [← HNS.out] at hR ⊢
                have ST45 := Lib.hid hR
                clear hR
                refine hK.out _ _ (Hq.out _ ST45.out.f) (fun hHeld => ?_)
                clear hK K
                try simp only [zP, zN, zS, zT, zU]
                refine tk 8 hHeld ?_
                have hnb := (ST45.out.nb N rfl)
                obtain ⟨s0, s1, s2, s3, s4, s5, hz, hzf⟩ := two_set hnb.1 (.slice a9 n c9) (.slice d9 m e9)
                have HC := Lib.hid (And.intro hz (And.intro ((ST45.out.f).over hzf (fun k hk => by have hk : k = N := hk; have := hnb.2; omega)) (show WdR _ (.agg #[.slice a9 n c9, .slice d9 m e9]) d from (show WdR q45 (.agg #[.slice a9 n c9, .slice d9 m e9]) d from ⟨_, _, rfl, ST45.out.r1 _ rfl, ST45.out.r2 _ rfl⟩).off hnb.1 hzf)))
                clear hnb hz hzf
                refine wpAnyH_ready (rs := [10]) (by kernel_rfl) (by simp) ?_
                refine (AllReadyH.cons (o := ?_) (by simp only [zA, zB, zC] <;> exact rfl) (fun K hK => ?_) AllReadyH.nil)
                go_simp
                refine hK.out _ _ (Hq.out _ HC.out.2.1) (fun hHeld => ?_)
                clear hK K
                try simp only [zP, zN, zS, zT, zU]
                refine yD ?_
                clear s0 s1 s2 s3 s4 s5
                generalize (World.setCell (World.setCell q45 _ _) _ _) = qe at *
                go_wp2_with fail
                go_meet
                case rel => exact ⟨N, a9, c9, d9, e9, rfl, Kp.and (Kp.row HC.out.1) (Kp.and (Kp.wd HC.out.2.2) (Kp.and (Kp.row (HKD.out _ HC.out.2.1).1) (Kp.and (Kp.row (HKD.out _ HC.out.2.1).2.1) (Kp.and (Kp.wd (HKD.out _ HC.out.2.1).2.2.1) (Kp.fp (HKD.out _ HC.out.2.1).2.2.2)))))⟩
              · go_simp
                have ST46 := Lib.hid ST42.out.b2
                refine hK.out _ _ (Hq.out _ ST46.out.f) (fun hHeld => ?_)
                clear hK K
                try simp only [zP, zN, zS, zT, zU]
                obtain ⟨g2, hg2⟩ : ∃ q, q42.heap.size = q := ⟨_, rfl⟩
                rw [hg2] at ST46 ⊢
                clear hg2
                generalize (q42.alloc (.cells #[] TV)) = q46 at *
                refine wpAnyH_ready (rs := [3]) (by kernel_rfl) (by simp) ?_
                refine (AllReadyH.cons (o := ?_) (by simp only [zA, zB, zC] <;> exact rfl) (fun K hK => ?_) AllReadyH.nil)
                refine step_app rfl _ _ TLW TLW rfl (.slice (some ⟨g1, 0, none⟩) 0 0) (.slice aw n cw) (by first | rfl | simp [Act.eval, Act.put]) (by first | rfl | simp [Act.eval, Act.put]) _ (ST46.out.a1 HVW.out HLW.out _) ?_
                rintro v47 q47 ⟨⟨a9, c9, rfl⟩, hR⟩
                rw [← HNW.out] at hR ⊢
                have ST47 := Lib.hid hR
                clear hR
                refine hK.out _ _ (Hq.out _ ST47.out.f) (fun hHeld => ?_)
                clear hK K
                try simp only [zP, zN, zS, zT, zU]
                refine wpAnyH_ready (rs := [7]) (by kernel_rfl) (by simp) ?_
                refine (AllReadyH.cons (o := ?_) (by simp only [zA, zB, zC] <;> exact rfl) (fun K hK => ?_) AllReadyH.nil)
                refine step_app rfl _ _ TLV TLV rfl (.slice (some ⟨g2, 0, none⟩) 0 0) (.slice at_ m cs) (by first | rfl | simp [Act.eval, Act.put]) (by first | rfl | simp [Act.eval, Act.put]) _ (ST47.out.a2 HVS.out HLS.out _) ?_
                rintro v48 q48 ⟨⟨d9, e9, rfl⟩, hR⟩
                rw [← HNS.out] at hR ⊢
                have ST48 := Lib.hid hR
                clear hR
                refine hK.out _ _ (Hq.out _ ST48.out.f) (fun hHeld => ?_)
                clear hK K
                try simp only [zP, zN, zS, zT, zU]
                refine tk 8 hHeld ?_
                have hnb := (ST48.out.nb N rfl)
                obtain ⟨s0, s1, s2, s3, s4, s5, hz, hzf⟩ := two_set hnb.1 (.slice a9 n c9) (.slice d9 m e9)
                have HC := Lib.hid (And.intro hz (And.intro ((ST48.out.f).over hzf (fun k hk => by have hk : k = N := hk; have := hnb.2; omega)) (show WdR _ (.agg #[.slice a9 n c9, .slice d9 m e9]) d from (show WdR q48 (.agg #[.slice a9 n c9, .slice d9 m e9]) d from ⟨_, _, rfl, ST48.out.r1 _ rfl, ST48.out.r2 _ rfl⟩).off hnb.1 hzf)))
                clear hnb hz hzf
                refine wpAnyH_ready (rs := [10]) (by kernel_rfl) (by simp) ?_
                refine (AllReadyH.cons (o := ?_) (by simp only [zA, zB, zC] <;> exact rfl) (fun K hK => ?_) AllReadyH.nil)
                go_simp
                refine hK.out _ _ (Hq.out _ HC.out.2.1) (fun hHeld => ?_)
                clear hK K
                try simp only [zP, zN, zS, zT, zU]
                refine yD ?_
                clear s0 s1 s2 s3 s4 s5
                generalize (World.setCell (World.setCell q48 _ _) _ _) = qe at *
                go_wp2_with fail
                go_meet
                case rel => exact ⟨N, a9, c9, d9, e9, rfl, Kp.and (Kp.row HC.out.1) (Kp.and (Kp.wd HC.out.2.2) (Kp.and (Kp.row (HKD.out _ HC.out.2.1).1) (Kp.and (Kp.row (HKD.out _ HC.out.2.1).2.1) (Kp.and (Kp.wd (HKD.out _ HC.out.2.1).2.2.1) (Kp.fp (HKD.out _ HC.out.2.1).2.2.2)))))⟩
            · go_simp
              have ST49 := Lib.hid ST41.out.b2
              refine hK.out _ _ (Hq.out _ ST49.out.f) (fun hHeld => ?_)
              clear hK K
              try simp only [zP, zN, zS, zT, zU]
              obtain ⟨g2, hg2⟩ : ∃ q, q41.heap.size = q := ⟨_, rfl⟩
              rw [hg2] at ST49 ⊢
              clear hg2
              generalize (q41.alloc (.cells #[] TV)) = q49 at *
              refine wpAnyH_ready (rs := [0]) (by kernel_rfl) (by simp) ?_
              refine (AllReadyH.cons (o := ?_) (by simp only [zA, zB, zC] <;> exact rfl) (fun K hK => ?_) AllReadyH.nil)
              go_simp
              have ST50 := Lib.hid ST49.out.b1
              refine hK.out _ _ (Hq.out _ ST50.out.f) (fun hHeld => ?_)
              clear hK K
              try simp only [zP, zN, zS, zT, zU]
              obtain ⟨g1, hg1⟩ : ∃ q, q49.heap.size = q := ⟨_, rfl⟩
              rw [hg1] at ST50 ⊢
              clear hg1
              generalize (q49.alloc (.cells #[] TW)) = q50 at *
              refine wpAnyH_ready (rs := [3]) (by kernel_rfl) (by simp) ?_
              refine (AllReadyH.cons (o := ?_) (by simp only [zA, zB, zC] <;> exact rfl) (fun K hK => ?_) AllReadyH.nil)
              refine step_app rfl _ _ TLW TLW rfl (.slice (some ⟨g1, 0, none⟩) 0 0) (.slice aw n cw) (by first | rfl | simp [Act.eval, Act.put]) (by first | rfl | simp [Act.eval, Act.put]) _ (ST50.out.a1 HVW.out HLW.out _) ?_
              rintro v51 q51 ⟨⟨a9, c9, rfl⟩, hR⟩
              rw [← HNW.out] at hR ⊢
              have ST51 := Lib.hid hR
              clear hR
              refine hK.out _ _ (Hq.out _ ST51.out.f) (fun hHeld => ?_)
              clear hK K
              try simp only [zP, zN, zS, zT, zU]
              refine wpAnyH_ready (rs := [7]) (by kernel_rfl) (by simp) ?_
              refine (AllReadyH.cons (o := ?_) (by simp only [zA, zB, zC] <;> exact rfl) (fun K hK => ?_) AllReadyH.nil)
              refine step_app rfl _ _ TLV TLV rfl (.slice (some ⟨g2, 0, none⟩) 0 0) (.slice at_ m cs) (by first | rfl | simp [Act.eval, Act.put]) (by first | rfl | simp [Act.eval, Act.put]) _ (ST51.out.a2 HVS.out HLS.out _) ?_
              rintro v52 q52 ⟨⟨d9, e9, rfl⟩, hR⟩
              rw [← HNS.out] at hR ⊢
              have ST52 := Lib.hid hR
              clear hR
              refine hK.out _ _ (Hq.out _ ST52.out.f) (fun hHeld => ?_)
              clear hK K
              try simp only [zP, zN, zS, zT, zU]
              refine tk 8 hHeld ?_
              have hnb := (ST52.out.nb N rfl)
              obtain ⟨s0, s1, s2, s3, s4, s5, hz, hzf⟩ := two_set hnb.1 (.slice a9 n c9) (.slice d9 m e9)
              have HC := Lib.hid (And.intro hz (And.intro ((ST52.out.f).over hzf (fun k hk => by have hk : k = N := hk; have := hnb.2; omega)) (show WdR _ (.agg #[.slice a9 n c9, .slice d9 m e9]) d from (show WdR q52 (.agg #[.slice a9 n c9, .slice d9 m e9]) d from ⟨_, _, rfl, ST52.out.r1 _ rfl, ST52.out.r2 _ rfl⟩).off hnb.1 hzf)))
              clear hnb hz hzf
              refine wpAnyH_ready (rs := [10]) (by kernel_rfl) (by simp) ?_
              refine (AllReadyH.cons (o := ?_) (by simp only [zA, zB, zC] <;> exact rfl) (fun K hK => ?_) AllReadyH.nil)
              go_simp
              refine hK.out _ _ (Hq.out _ HC.out.2.1) (fun hHeld => ?_)
              clear hK K
              try simp only [zP, zN, zS, zT, zU]
              refine yD ?_
              clear s0 s1 s2 s3 s4 s5
              generalize (World.setCell (World.setCell q52 _ _) _ _) = qe at *
              go_wp2_with fail
              go_meet
              case rel => exact ⟨N, a9, c9, d9, e9, rfl, Kp.and (Kp.row HC.out.1) (Kp.and (Kp.wd HC.out.2.2) (Kp.and (Kp.row (HKD.out _ HC.out.2.1).1) (Kp.and (Kp.row (HKD.out _ HC.out.2.1).2.1) (Kp.and (Kp.wd (HKD.out _ HC.out.2.1).2.2.1) (Kp.fp (HKD.out _ HC.out.2.1).2.2.2)))))⟩
        case rest =>
          obtain ⟨N, a9, c9, d9, e9, rfl, HC⟩ := hcut
          have hri := HBR.out
          have hsm := HFW.out.n
          have hl := ss_len hri ⟨sx, nx, px, dx⟩ sx nx kd p un
          have ha := fun W (hW : WdR W (.agg #[.slice a9 n c9, .slice d9 m e9]) d) => Add_w (.agg #[.slice a9 n c9, .slice d9 m e9]) d ⟨sx, nx, px, dx⟩ W hW HFW.out.sz (show px.length ≤ 1000000 by have h := HFO.out.1; omega)
          have hb := fun W (hW : WdR W (.agg #[.slice a9 n c9, .slice d9 m e9]) d) => Close_w (.agg #[.slice a9 n c9, .slice d9 m e9]) d sx nx W hW HFW.out.sz
          have hc := fun W (hW : WdR W (.agg #[.slice a9 n c9, .slice d9 m e9]) d) => Tell_w (.agg #[.slice a9 n c9, .slice d9 m e9]) d kd p W hW HFW.out.sz (by have h := HFO.out.2; omega)
          have hd := fun W (hW : WdR W (.agg #[.slice a9 n c9, .slice d9 m e9]) d) => Take_w (.agg #[.slice a9 n c9, .slice d9 m e9]) d sx un W hW HFW.out.sz
          have wa := add_ways ⟨sx, nx, px, dx⟩ hri
          have wb := close_ways sx nx hri
          have wc_ := tell_ways (d := d) kd p
          have wd_ := take_ways sx un hri
          have ra := add_right d ⟨sx, nx, px, dx⟩ hri
          have rb := close_right d sx nx hri
          have rc := tell_right d kd p hri
          have rd := take_right d sx un hri
          unfold wtV strV at ha
          simp only at ha
          obtain ⟨A, hA⟩ : ∃ E, E = (addM d ⟨sx, nx, px, dx⟩).1 := ⟨_, rfl⟩
          obtain ⟨ea, hea⟩ : ∃ E, E = (addM d ⟨sx, nx, px, dx⟩).2 := ⟨_, rfl⟩
          obtain ⟨B', hB⟩ : ∃ E, E = (closeM d sx nx).1 := ⟨_, rfl⟩
          obtain ⟨eb, heb⟩ : ∃ E, E = (closeM d sx nx).2 := ⟨_, rfl⟩
          obtain ⟨C, hC⟩ : ∃ E, E = (tellM d kd p).1 := ⟨_, rfl⟩
          obtain ⟨ec, hec⟩ : ∃ E, E = (tellM d kd p).2 := ⟨_, rfl⟩
          obtain ⟨D, hD⟩ : ∃ E, E = (takeM d sx un).1 := ⟨_, rfl⟩
          obtain ⟨ed, hed⟩ : ∃ E, E = (takeM d sx un).2.2 := ⟨_, rfl⟩
          obtain ⟨es, hes⟩ : ∃ E, E = (takeM d sx un).2.1 := ⟨_, rfl⟩
          rw [← hA, ← hea] at ha wa
          rw [← hB, ← heb] at hb wb
          rw [← hC, ← hec] at hc wc_
          rw [← hD, ← hed] at wd_
          rw [← hD, ← hed, ← hes] at hd
          rw [← hA] at ra
          rw [← hB] at rb
          rw [← hC] at rc
          rw [← hD] at rd
          rw [← hA, ← hB, ← hC, ← hD] at hl
          have HA := Lib.hid ha
          have HB := Lib.hid hb
          have HCC := Lib.hid hc
          have HD := Lib.hid hd
          have HW := Lib.hid (And.intro wa (And.intro wb (And.intro wc_ wd_)))
          have HR := Lib.hid (And.intro ra (And.intro rb (And.intro rc rd)))
          have HS := Lib.hid (show A.ss.length ≤ 30000 ∧ B'.ss.length ≤ 30000 ∧ C.ss.length ≤ 30000 ∧ D.ss.length ≤ 30000 from ⟨by omega, by omega, by omega, by omega⟩)
          have HSD := Lib.hid (sz9 hri (by omega))
          clear ha hb hc hd wa wb wc_ wd_ ra rb rc rd hl hri hsm hA hea hB heb hC hec hD hed hes
          obtain ⟨p0, p1⟩ := boxP2 HC.out.now.1
          obtain ⟨x0, x1, x2, x3, x4, x5, x6, x7⟩ := boxP8 HC.out.now.2.2.2.1
          go_wp2_with fail
          refine (HA.out _ HC.out.now.2.1).mono ?_
          rintro e w4 hR
          obtain ⟨a4, m4, c4, d4, k4, e4, rfl, hm4, hk4, hw4⟩ := hR.bx
          have hbx := heap_alloc_new w4 (.cells #[.slice a4 m4 c4, .slice d4 k4 e4] TD)
          have HM4 := Lib.hid (And.intro hm4 hk4)
          clear hm4 hk4 
          have K4 := Lib.hid (Kp.and (Kp.row hbx) ((Kp.and (Kp.wd hw4) (HC.out.later hR.fp)).later (fp_alloc w4 (.cells #[.slice a4 m4 c4, .slice d4 k4 e4] TD))))
          clear hR hbx hw4  HC p0 p1 x0 x1 x2 x3 x4 x5 x6 x7 HA
          obtain ⟨p0, p1⟩ := boxP2 K4.out.now.2.2.1
          obtain ⟨x0, x1, x2, x3, x4, x5, x6, x7⟩ := boxP8 K4.out.now.2.2.2.2.2.1
          go_wp2_with fail
          refine (HB.out _ K4.out.now.2.2.2.1).mono ?_
          rintro e w5 hR
          obtain ⟨a5, m5, c5, d5, k5, e5, rfl, hm5, hk5, hw5⟩ := hR.bx
          have hbx := heap_alloc_new w5 (.cells #[.slice a5 m5 c5, .slice d5 k5 e5] TD)
          have HM5 := Lib.hid (And.intro hm5 hk5)
          clear hm5 hk5 
          have K5 := Lib.hid (Kp.and (Kp.row hbx) ((Kp.and (Kp.wd hw5) (K4.out.later hR.fp)).later (fp_alloc w5 (.cells #[.slice a5 m5 c5, .slice d5 k5 e5] TD))))
          clear hR hbx hw5  K4 p0 p1 x0 x1 x2 x3 x4 x5 x6 x7 HB
          obtain ⟨p0, p1⟩ := boxP2 K5.out.now.2.2.2.2.1
          obtain ⟨x0, x1, x2, x3, x4, x5, x6, x7⟩ := boxP8 K5.out.now.2.2.2.2.2.2.2.1
          go_wp2_with fail
          refine (HCC.out _ K5.out.now.2.2.2.2.2.1).mono ?_
          rintro e w6 hR
          obtain ⟨a6, m6, c6, d6, k6, e6, rfl, hm6, hk6, hw6⟩ := hR.bx
          have hbx := heap_alloc_new w6 (.cells #[.slice a6 m6 c6, .slice d6 k6 e6] TD)
          have HM6 := Lib.hid (And.intro hm6 hk6)
          clear hm6 hk6 
          have K6 := Lib.hid (Kp.and (Kp.row hbx) ((Kp.and (Kp.wd hw6) (K5.out.later hR.fp)).later (fp_alloc w6 (.cells #[.slice a6 m6 c6, .slice d6 k6 e6] TD))))
          clear hR hbx hw6  K5 p0 p1 x0 x1 x2 x3 x4 x5 x6 x7 HCC
          obtain ⟨p0, p1⟩ := boxP2 K6.out.now.2.2.2.2.2.2.1
          obtain ⟨x0, x1, x2, x3, x4, x5, x6, x7⟩ := boxP8 K6.out.now.2.2.2.2.2.2.2.2.2.1
          go_wp2_with fail
          refine (HD.out _ K6.out.now.2.2.2.2.2.2.2.1).mono ?_
          rintro e w7 hR
          obtain ⟨a7, m7, c7, d7, k7, e7, l7, n7, f7, rfl, hm7, hk7, hn7, hw7, hl7⟩ := hR.bx
          have hbx := heap_alloc_new w7 (.cells #[.slice a7 m7 c7, .slice d7 k7 e7] TD)
          have HM7 := Lib.hid (And.intro hm7 (And.intro hk7 hn7))
          clear hm7 hk7 hn7
          have K7 := Lib.hid (Kp.and (Kp.row hbx) ((Kp.and (Kp.wd hw7) (Kp.and (Kp.ne hl7) (K6.out.later hR.fp))).later (fp_alloc w7 (.cells #[.slice a7 m7 c7, .slice d7 k7 e7] TD))))
          clear hR hbx hw7 hl7 K6 p0 p1 x0 x1 x2 x3 x4 x5 x6 x7 HD
          obtain ⟨p0, p1⟩ := boxP2 K7.out.now.2.2.2.2.2.2.2.2.2.1
          obtain ⟨r0, r1⟩ := boxP2 K7.out.now.2.2.2.2.2.2.2.2.2.2.2.1
          go_wp2_with fail
          refine (Same_e _ _ d d true (decide_eq_true rfl) _ K7.out.now.2.2.2.2.2.2.2.2.2.2.1 K7.out.now.2.2.2.2.2.2.2.2.2.2.2.2.2.1 HSD.out HSD.out).mono ?_
          rintro e v1 ⟨rfl, hf⟩
          have KK1 := Lib.hid (K7.out.later hf)
          clear hf K7 p0 p1 r0 r1
          obtain ⟨p0, p1⟩ := boxP2 KK1.out.now.2.2.2.2.2.2.2.1
          go_wp2_with fail
          refine (rRight_t _ A _ KK1.out.now.2.2.2.2.2.2.2.2.1 HR.out.1 HS.out.1).mono ?_
          rintro e v2 ⟨rfl, hf⟩
          have KK2 := Lib.hid (KK1.out.later hf)
          clear hf KK1 p0 p1
          obtain ⟨p0, p1⟩ := boxP2 KK2.out.now.2.2.2.2.2.1
          go_wp2_with fail
          refine (rRight_t _ B' _ KK2.out.now.2.2.2.2.2.2.1 HR.out.2.1 HS.out.2.1).mono ?_
          rintro e v3 ⟨rfl, hf⟩
          have KK3 := Lib.hid (KK2.out.later hf)
          clear hf KK2 p0 p1
          obtain ⟨p0, p1⟩ := boxP2 KK3.out.now.2.2.2.1
          go_wp2_with fail
          refine (rRight_t _ C _ KK3.out.now.2.2.2.2.1 HR.out.2.2.1 HS.out.2.2.1).mono ?_
          rintro e v4 ⟨rfl, hf⟩
          have KK4 := Lib.hid (KK3.out.later hf)
          clear hf KK3 p0 p1
          obtain ⟨p0, p1⟩ := boxP2 KK4.out.now.1
          go_wp2_with fail
          refine (rRight_t _ D _ KK4.out.now.2.1 HR.out.2.2.2 HS.out.2.2.2).mono ?_
          rintro e v5 ⟨rfl, hf⟩
          have KK5 := Lib.hid (KK4.out.later hf)
          clear hf KK4 p0 p1
          have hbx := heap_alloc_new v5 (.cells #[.slice none 0 0, .slice none 0 0] TD)
          have KE := Lib.hid (Kp.and (Kp.row hbx) ((Kp.and (Kp.wd (WdR.nil v5)) (KK5.out)).later (fp_alloc v5 (.cells #[.slice none 0 0, .slice none 0 0] TD))))
          have HSZ := Lib.hid (And.intro (sz9 HR.out.1 HS.out.1) (And.intro (sz9 HR.out.2.1 HS.out.2.1) (And.intro (sz9 HR.out.2.2.1 HS.out.2.2.1) (sz9 HR.out.2.2.2 HS.out.2.2.2))))
          have HSE := Lib.hid (sz9 nil_right (by simp))
          have hw := HW.out
          clear hbx KK5 HR HS HW HFW HFO
          rcases hw.1 with rfl | ⟨hea, hE⟩ | ⟨rfl, rfl⟩
          · rcases hw.2.1 with rfl | ⟨heb, hE⟩
            · rcases hw.2.2.1 with rfl | ⟨hec, hE⟩
              · rcases hw.2.2.2 with rfl | ⟨hed, hE⟩
                · clear hw
                  have FF := Lib.hid KE.out.now.2.2.2.2.2.2.2.2.2.2.2.2.2.2.2.2
                  clear KE
                  go_wp2_with fail
                  go_ret
                  exact ⟨rfl, FF.out⟩
                · have hE2 := hE.symm
                  subst hE2
                  clear hw hE
                  have eda : (ed == 0) = false := beq_eq_false_iff_ne.2 hed
                  have edb : (ed = 0) = False := eq_false hed
                  clear hed
                  obtain ⟨p0, p1⟩ := boxP2 KE.out.now.2.2.1
                  obtain ⟨r0, r1⟩ := boxP2 KE.out.now.2.2.2.2.2.2.2.2.2.2.2.2.2.1
                  go_wp2_with fail
                  refine (Same_e _ _ d d true (decide_eq_true rfl) _ KE.out.now.2.2.2.1 KE.out.now.2.2.2.2.2.2.2.2.2.2.2.2.2.2.2.1 HSD.out HSD.out).mono ?_
                  rintro e v6 ⟨rfl, hf⟩
                  have KK6 := Lib.hid (KE.out.later hf)
                  clear hf KE p0 p1 r0 r1
                  have FF := Lib.hid KK6.out.now.2.2.2.2.2.2.2.2.2.2.2.2.2.2.2.2
                  clear KK6
                  go_wp2_with fail
                  go_ret
                  exact ⟨rfl, FF.out⟩
              · have hE2 := hE.symm
                subst hE2
                clear hE
                rcases hw.2.2.2 with rfl | ⟨hed, hE⟩
                · clear hw
                  have eca : (ec == 0) = false := beq_eq_false_iff_ne.2 hec
                  have ecb : (ec = 0) = False := eq_false hec
                  clear hec
                  obtain ⟨p0, p1⟩ := boxP2 KE.out.now.2.2.2.2.2.1
                  obtain ⟨z0, z1⟩ := boxP2 KE.out.now.1
                  go_wp2_with fail
                  refine (Same_e _ _ ⟨[], []⟩ ⟨[], []⟩ true (decide_eq_true rfl) _ KE.out.now.2.2.2.2.2.2.1 KE.out.now.2.1 HSE.out HSE.out).mono ?_
                  rintro e v7 ⟨rfl, hf⟩
                  have KK7 := Lib.hid (KE.out.later hf)
                  clear hf KE p0 p1 z0 z1
                  have FF := Lib.hid KK7.out.now.2.2.2.2.2.2.2.2.2.2.2.2.2.2.2.2
                  clear KK7
                  go_wp2_with fail
                  go_ret
                  exact ⟨rfl, FF.out⟩
                · have hE2 := hE.symm
                  subst hE2
                  clear hw hE
                  have eca : (ec == 0) = false := beq_eq_false_iff_ne.2 hec
                  have ecb : (ec = 0) = False := eq_false hec
                  clear hec
                  have eda : (ed == 0) = false := beq_eq_false_iff_ne.2 hed
                  have edb : (ed = 0) = False := eq_false hed
                  clear hed
                  obtain ⟨p0, p1⟩ := boxP2 KE.out.now.2.2.2.2.2.1
                  obtain ⟨z0, z1⟩ := boxP2 KE.out.now.1
                  go_wp2_with fail
                  refine (Same_e _ _ ⟨[], []⟩ ⟨[], []⟩ true (decide_eq_true rfl) _ KE.out.now.2.2.2.2.2.2.1 KE.out.now.2.1 HSE.out HSE.out).mono ?_
                  rintro e v8 ⟨rfl, hf⟩
                  have KK8 := Lib.hid (KE.out.later hf)
                  clear hf KE p0 p1 z0 z1
                  obtain ⟨p0, p1⟩ := boxP2 KK8.out.now.2.2.1
                  obtain ⟨r0, r1⟩ := boxP2 KK8.out.now.2.2.2.2.2.2.2.2.2.2.2.2.2.1
                  go_wp2_with fail
                  refine (Same_e _ _ d d true (decide_eq_true rfl) _ KK8.out.now.2.2.2.1 KK8.out.now.2.2.2.2.2.2.2.2.2.2.2.2.2.2.2.1 HSD.out HSD.out).mono ?_
                  rintro e v9 ⟨rfl, hf⟩
                  have KK9 := Lib.hid (KK8.out.later hf)
                  clear hf KK8 p0 p1 r0 r1
                  have FF := Lib.hid KK9.out.now.2.2.2.2.2.2.2.2.2.2.2.2.2.2.2.2
                  clear KK9
                  go_wp2_with fail
                  go_ret
                  exact ⟨rfl, FF.out⟩
            · have hE2 := hE.symm
              subst hE2
              clear hE
              rcases hw.2.2.1 with rfl | ⟨hec, hE⟩
              · rcases hw.2.2.2 with rfl | ⟨hed, hE⟩
                · clear hw
                  have eba : (eb == 0) = false := beq_eq_false_iff_ne.2 heb
                  have ebb : (eb = 0) = False := eq_false heb
                  clear heb
                  obtain ⟨p0, p1⟩ := boxP2 KE.out.now.2.2.2.2.2.2.2.1
                  obtain ⟨r0, r1⟩ := boxP2 KE.out.now.2.2.2.2.2.2.2.2.2.2.2.2.2.1
                  go_wp2_with fail
                  refine (Same_e _ _ d d true (decide_eq_true rfl) _ KE.out.now.2.2.2.2.2.2.2.2.1 KE.out.now.2.2.2.2.2.2.2.2.2.2.2.2.2.2.2.1 HSD.out HSD.out).mono ?_
                  rintro e v10 ⟨rfl, hf⟩
                  have KK10 := Lib.hid (KE.out.later hf)
                  clear hf KE p0 p1 r0 r1
                  have FF := Lib.hid KK10.out.now.2.2.2.2.2.2.2.2.2.2.2.2.2.2.2.2
                  clear KK10
                  go_wp2_with fail
                  go_ret
                  exact ⟨rfl, FF.out⟩
                · have hE2 := hE.symm
                  subst hE2
                  clear hw hE
                  have eba : (eb == 0) = false := beq_eq_false_iff_ne.2 heb
                  have ebb : (eb = 0) = False := eq_false heb
                  clear heb
                  have eda : (ed == 0) = false := beq_eq_false_iff_ne.2 hed
                  have edb : (ed = 0) = False := eq_false hed
                  clear hed
                  obtain ⟨p0, p1⟩ := boxP2 KE.out.now.2.2.2.2.2.2.2.1
                  obtain ⟨r0, r1⟩ := boxP2 KE.out.now.2.2.2.2.2.2.2.2.2.2.2.2.2.1
                  go_wp2_with fail
                  refine (Same_e _ _ d d true (decide_eq_true rfl) _ KE.out.now.2.2.2.2.2.2.2.2.1 KE.out.now.2.2.2.2.2.2.2.2.2.2.2.2.2.2.2.1 HSD.out HSD.out).mono ?_
                  rintro e v11 ⟨rfl, hf⟩
                  have KK11 := Lib.hid (KE.out.later hf)
                  clear hf KE p0 p1 r0 r1
                  obtain ⟨p0, p1⟩ := boxP2 KK11.out.now.2.2.1
                  obtain ⟨r0, r1⟩ := boxP2 KK11.out.now.2.2.2.2.2.2.2.2.2.2.2.2.2.1
                  go_wp2_with fail
                  refine (Same_e _ _ d d true (decide_eq_true rfl) _ KK11.out.now.2.2.2.1 KK11.out.now.2.2.2.2.2.2.2.2.2.2.2.2.2.2.2.1 HSD.out HSD.out).mono ?_
                  rintro e v12 ⟨rfl, hf⟩
                  have KK12 := Lib.hid (KK11.out.later hf)
                  clear hf KK11 p0 p1 r0 r1
                  have FF := Lib.hid KK12.out.now.2.2.2.2.2.2.2.2.2.2.2.2.2.2.2.2
                  clear KK12
                  go_wp2_with fail
                  go_ret
                  exact ⟨rfl, FF.out⟩
              · have hE2 := hE.symm
                subst hE2
                clear hE
                rcases hw.2.2.2 with rfl | ⟨hed, hE⟩
                · clear hw
                  have eba : (eb == 0) = false := beq_eq_false_iff_ne.2 heb
                  have ebb : (eb = 0) = False := eq_false heb
                  clear heb
                  have eca : (ec == 0) = false := beq_eq_false_iff_ne.2 hec
                  have ecb : (ec = 0) = False := eq_false hec
                  clear hec
                  obtain ⟨p0, p1⟩ := boxP2 KE.out.now.2.2.2.2.2.2.2.1
                  obtain ⟨r0, r1⟩ := boxP2 KE.out.now.2.2.2.2.2.2.2.2.2.2.2.2.2.1
                  go_wp2_with fail
                  refine (Same_e _ _ d d true (decide_eq_true rfl) _ KE.out.now.2.2.2.2.2.2.2.2.1 KE.out.now.2.2.2.2.2.2.2.2.2.2.2.2.2.2.2.1 HSD.out HSD.out).mono ?_
                  rintro e v13 ⟨rfl, hf⟩
                  have KK13 := Lib.hid (KE.out.later hf)
                  clear hf KE p0 p1 r0 r1
                  obtain ⟨p0, p1⟩ := boxP2 KK13.out.now.2.2.2.2.2.1
                  obtain ⟨z0, z1⟩ := boxP2 KK13.out.now.1
                  go_wp2_with fail
                  refine (Same_e _ _ ⟨[], []⟩ ⟨[], []⟩ true (decide_eq_true rfl) _ KK13.out.now.2.2.2.2.2.2.1 KK13.out.now.2.1 HSE.out HSE.out).mono ?_
                  rintro e v14 ⟨rfl, hf⟩
                  have KK14 := Lib.hid (KK13.out.later hf)
                  clear hf KK13 p0 p1 z0 z1
                  have FF := Lib.hid KK14.out.now.2.2.2.2.2.2.2.2.2.2.2.2.2.2.2.2
                  clear KK14
                  go_wp2_with fail
                  go_ret
                  exact ⟨rfl, FF.out⟩
                · have hE2 := hE.symm
                  subst hE2
                  clear hw hE
                  have eba : (eb == 0) = false := beq_eq_false_iff_ne.2 heb
                  have ebb : (eb = 0) = False := eq_false heb
                  clear heb
                  have eca : (ec == 0) = false := beq_eq_false_iff_ne.2 hec
                  have ecb : (ec = 0) = False := eq_false hec
                  clear hec
                  have eda : (ed == 0) = false := beq_eq_false_iff_ne.2 hed
                  have edb : (ed = 0) = False := eq_false hed
                  clear hed
                  obtain ⟨p0, p1⟩ := boxP2 KE.out.now.2.2.2.2.2.2.2.1
                  obtain ⟨r0, r1⟩ := boxP2 KE.out.now.2.2.2.2.2.2.2.2.2.2.2.2.2.1
                  go_wp2_with fail
                  refine (Same_e _ _ d d true (decide_eq_true rfl) _ KE.out.now.2.2.2.2.2.2.2.2.1 KE.out.now.2.2.2.2.2.2.2.2.2.2.2.2.2.2.2.1 HSD.out HSD.out).mono ?_
                  rintro e v15 ⟨rfl, hf⟩
                  have KK15 := Lib.hid (KE.out.later hf)
                  clear hf KE p0 p1 r0 r1
                  obtain ⟨p0, p1⟩ := boxP2 KK15.out.now.2.2.2.2.2.1
                  obtain ⟨z0, z1⟩ := boxP2 KK15.out.now.1
                  go_wp2_with fail
                  refine (Same_e _ _ ⟨[], []⟩ ⟨[], []⟩ true (decide_eq_true rfl) _ KK15.out.now.2.2.2.2.2.2.1 KK15.out.now.2.1 HSE.out HSE.out).mono ?_
                  rintro e v16 ⟨rfl, hf⟩
                  have KK16 := Lib.hid (KK15.out.later hf)
                  clear hf KK15 p0 p1 z0 z1
                  obtain ⟨p0, p1⟩ := boxP2 KK16.out.now.2.2.1
                  obtain ⟨r0, r1⟩ := boxP2 KK16.out.now.2.2.2.2.2.2.2.2.2.2.2.2.2.1
                  go_wp2_with fail
                  refine (Same_e _ _ d d true (decide_eq_true rfl) _ KK16.out.now.2.2.2.1 KK16.out.now.2.2.2.2.2.2.2.2.2.2.2.2.2.2.2.1 HSD.out HSD.out).mono ?_
                  rintro e v17 ⟨rfl, hf⟩
                  have KK17 := Lib.hid (KK16.out.later hf)
                  clear hf KK16 p0 p1 r0 r1
                  have FF := Lib.hid KK17.out.now.2.2.2.2.2.2.2.2.2.2.2.2.2.2.2.2
                  clear KK17
                  go_wp2_with fail
                  go_ret
                  exact ⟨rfl, FF.out⟩
          · have hE2 := hE.symm
            subst hE2
            clear hE
            rcases hw.2.1 with rfl | ⟨heb, hE⟩
            · rcases hw.2.2.1 with rfl | ⟨hec, hE⟩
              · rcases hw.2.2.2 with rfl | ⟨hed, hE⟩
                · clear hw
                  have eaa : (ea == 0) = false := beq_eq_false_iff_ne.2 hea
                  have eab : (ea = 0) = False := eq_false hea
                  clear hea
                  obtain ⟨p0, p1⟩ := boxP2 KE.out.now.2.2.2.2.2.2.2.2.2.1
                  obtain ⟨r0, r1⟩ := boxP2 KE.out.now.2.2.2.2.2.2.2.2.2.2.2.2.2.1
                  go_wp2_with fail
                  refine (Same_e _ _ d d true (decide_eq_true rfl) _ KE.out.now.2.2.2.2.2.2.2.2.2.2.1 KE.out.now.2.2.2.2.2.2.2.2.2.2.2.2.2.2.2.1 HSD.out HSD.out).mono ?_
                  rintro e v18 ⟨rfl, hf⟩
                  have KK18 := Lib.hid (KE.out.later hf)
                  clear hf KE p0 p1 r0 r1
                  have FF := Lib.hid KK18.out.now.2.2.2.2.2.2.2.2.2.2.2.2.2.2.2.2
                  clear KK18
                  go_wp2_with fail
                  go_ret
                  exact ⟨rfl, FF.out⟩
                · have hE2 := hE.symm
                  subst hE2
                  clear hw hE
                  have eaa : (ea == 0) = false := beq_eq_false_iff_ne.2 hea
                  have eab : (ea = 0) = False := eq_false hea
                  clear hea
                  have eda : (ed == 0) = false := beq_eq_false_iff_ne.2 hed
                  have edb : (ed = 0) = False := eq_false hed
                  clear hed
                  obtain ⟨p0, p1⟩ := boxP2 KE.out.now.2.2.2.2.2.2.2.2.2.1
                  obtain ⟨r0, r1⟩ := boxP2 KE.out.now.2.2.2.2.2.2.2.2.2.2.2.2.2.1
                  go_wp2_with fail
                  refine (Same_e _ _ d d true (decide_eq_true rfl) _ KE.out.now.2.2.2.2.2.2.2.2.2.2.1 KE.out.now.2.2.2.2.2.2.2.2.2.2.2.2.2.2.2.1 HSD.out HSD.out).mono ?_
                  rintro e v19 ⟨rfl, hf⟩
                  have KK19 := Lib.hid (KE.out.later hf)
                  clear hf KE p0 p1 r0 r1
                  obtain ⟨p0, p1⟩ := boxP2 KK19.out.now.2.2.1
                  obtain ⟨r0, r1⟩ := boxP2 KK19.out.now.2.2.2.2.2.2.2.2.2.2.2.2.2.1
                  go_wp2_with fail
                  refine (Same_e _ _ d d true (decide_eq_true rfl) _ KK19.out.now.2.2.2.1 KK19.out.now.2.2.2.2.2.2.2.2.2.2.2.2.2.2.2.1 HSD.out HSD.out).mono ?_
                  rintro e v20 ⟨rfl, hf⟩
                  have KK20 := Lib.hid (KK19.out.later hf)
                  clear hf KK19 p0 p1 r0 r1
                  have FF := Lib.hid KK20.out.now.2.2.2.2.2.2.2.2.2.2.2.2.2.2.2.2
                  clear KK20
                  go_wp2_with fail
                  go_ret
                  exact ⟨rfl, FF.out⟩
              · have hE2 := hE.symm
                subst hE2
                clear hE
                rcases hw.2.2.2 with rfl | ⟨hed, hE⟩
                · clear hw
                  have eaa : (ea == 0) = false := beq_eq_false_iff_ne.2 hea
                  have eab : (ea = 0) = False := eq_false hea
                  clear hea
                  have eca : (ec == 0) = false := beq_eq_false_iff_ne.2 hec
                  have ecb : (ec = 0) = False := eq_false hec
                  clear hec
                  obtain ⟨p0, p1⟩ := boxP2 KE.out.now.2.2.2.2.2.2.2.2.2.1
                  obtain ⟨r0, r1⟩ := boxP2 KE.out.now.2.2.2.2.2.2.2.2.2.2.2.2.2.1
                  go_wp2_with fail
                  refine (Same_e _ _ d d true (decide_eq_true rfl) _ KE.out.now.2.2.2.2.2.2.2.2.2.2.1 KE.out.now.2.2.2.2.2.2.2.2.2.2.2.2.2.2.2.1 HSD.out HSD.out).mono ?_
                  rintro e v21 ⟨rfl, hf⟩
                  have KK21 := Lib.hid (KE.out.later hf)
                  clear hf KE p0 p1 r0 r1
                  obtain ⟨p0, p1⟩ := boxP2 KK21.out.now.2.2.2.2.2.1
                  obtain ⟨z0, z1⟩ := boxP2 KK21.out.now.1
                  go_wp2_with fail
                  refine (Same_e _ _ ⟨[], []⟩ ⟨[], []⟩ true (decide_eq_true rfl) _ KK21.out.now.2.2.2.2.2.2.1 KK21.out.now.2.1 HSE.out HSE.out).mono ?_
                  rintro e v22 ⟨rfl, hf⟩
                  have KK22 := Lib.hid (KK21.out.later hf)
                  clear hf KK21 p0 p1 z0 z1
                  have FF := Lib.hid KK22.out.now.2.2.2.2.2.2.2.2.2.2.2.2.2.2.2.2
                  clear KK22
                  go_wp2_with fail
                  go_ret
                  exact ⟨rfl, FF.out⟩
                · have hE2 := hE.symm
                  subst hE2
                  clear hw hE
                  have eaa : (ea == 0) = false := beq_eq_false_iff_ne.2 hea
                  have eab : (ea = 0) = False := eq_false hea
                  clear hea
                  have eca : (ec == 0) = false := beq_eq_false_iff_ne.2 hec
                  have ecb : (ec = 0) = False := eq_false hec
                  clear hec
                  have eda : (ed == 0) = false := beq_eq_false_iff_ne.2 hed
                  have edb : (ed = 0) = False := eq_false hed
                  clear hed
                  obtain ⟨p0, p1⟩ := boxP2 KE.out.now.2.2.2.2.2.2.2.2.2.1
                  obtain ⟨r0, r1⟩ := boxP2 KE.out.now.2.2.2.2.2.2.2.2.2.2.2.2.2.1
                  go_wp2_with fail
                  refine (Same_e _ _ d d true (decide_eq_true rfl) _ KE.out.now.2.2.2.2.2.2.2.2.2.2.1 KE.out.now.2.2.2.2.2.2.2.2.2.2.2.2.2.2.2.1 HSD.out HSD.out).mono ?_
                  rintro e v23 ⟨rfl, hf⟩
                  have KK23 := Lib.hid (KE.out.later hf)
                  clear hf KE p0 p1 r0 r1
                  obtain ⟨p0, p1⟩ := boxP2 KK23.out.now.2.2.2.2.2.1
                  obtain ⟨z0, z1⟩ := boxP2 KK23.out.now.1
                  go_wp2_with fail
                  refine (Same_e _ _ ⟨[], []⟩ ⟨[], []⟩ true (decide_eq_true rfl) _ KK23.out.now.2.2.2.2.2.2.1 KK23.out.now.2.1 HSE.out HSE.out).mono ?_
                  rintro e v24 ⟨rfl, hf⟩
                  have KK24 := Lib.hid (KK23.out.later hf)
                  clear hf KK23 p0 p1 z0 z1
                  obtain ⟨p0, p1⟩ := boxP2 KK24.out.now.2.2.1
                  obtain ⟨r0, r1⟩ := boxP2 KK24.out.now.2.2.2.2.2.2.2.2.2.2.2.2.2.1
                  go_wp2_with fail
                  refine (Same_e _ _ d d true (decide_eq_true rfl) _ KK24.out.now.2.2.2.1 KK24.out.now.2.2.2.2.2.2.2.2.2.2.2.2.2.2.2.1 HSD.out HSD.out).mono ?_
                  rintro e v25 ⟨rfl, hf⟩
                  have KK25 := Lib.hid (KK24.out.later hf)
                  clear hf KK24 p0 p1 r0 r1
                  have FF := Lib.hid KK25.out.now.2.2.2.2.2.2.2.2.2.2.2.2.2.2.2.2
                  clear KK25
                  go_wp2_with fail
                  go_ret
                  exact ⟨rfl, FF.out⟩
            · have hE2 := hE.symm
              subst hE2
              clear hE
              rcases hw.2.2.1 with rfl | ⟨hec, hE⟩
              · rcases hw.2.2.2 with rfl | ⟨hed, hE⟩
                · clear hw
                  have eaa : (ea == 0) = false := beq_eq_false_iff_ne.2 hea
                  have eab : (ea = 0) = False := eq_false hea
                  clear hea
                  have eba : (eb == 0) = false := beq_eq_false_iff_ne.2 heb
                  have ebb : (eb = 0) = False := eq_false heb
                  clear heb
                  obtain ⟨p0, p1⟩ := boxP2 KE.out.now.2.2.2.2.2.2.2.2.2.1
                  obtain ⟨r0, r1⟩ := boxP2 KE.out.now.2.2.2.2.2.2.2.2.2.2.2.2.2.1
                  go_wp2_with fail
                  refine (Same_e _ _ d d true (decide_eq_true rfl) _ KE.out.now.2.2.2.2.2.2.2.2.2.2.1 KE.out.now.2.2.2.2.2.2.2.2.2.2.2.2.2.2.2.1 HSD.out HSD.out).mono ?_
                  rintro e v26 ⟨rfl, hf⟩
                  have KK26 := Lib.hid (KE.out.later hf)
                  clear hf KE p0 p1 r0 r1
                  obtain ⟨p0, p1⟩ := boxP2 KK26.out.now.2.2.2.2.2.2.2.1
                  obtain ⟨r0, r1⟩ := boxP2 KK26.out.now.2.2.2.2.2.2.2.2.2.2.2.2.2.1
                  go_wp2_with fail
                  refine (Same_e _ _ d d true (decide_eq_true rfl) _ KK26.out.now.2.2.2.2.2.2.2.2.1 KK26.out.now.2.2.2.2.2.2.2.2.2.2.2.2.2.2.2.1 HSD.out HSD.out).mono ?_
                  rintro e v27 ⟨rfl, hf⟩
                  have KK27 := Lib.hid (KK26.out.later hf)
                  clear hf KK26 p0 p1 r0 r1
                  have FF := Lib.hid KK27.out.now.2.2.2.2.2.2.2.2.2.2.2.2.2.2.2.2
                  clear KK27
                  go_wp2_with fail
                  go_ret
                  exact ⟨rfl, FF.out⟩
                · have hE2 := hE.symm
                  subst hE2
                  clear hw hE
                  have eaa : (ea == 0) = false := beq_eq_false_iff_ne.2 hea
                  have eab : (ea = 0) = False := eq_false hea
                  clear hea
                  have eba : (eb == 0) = false := beq_eq_false_iff_ne.2 heb
                  have ebb : (eb = 0) = False := eq_false heb
                  clear heb
                  have eda : (ed == 0) = false := beq_eq_false_iff_ne.2 hed
                  have edb : (ed = 0) = False := eq_false hed
                  clear hed
                  obtain ⟨p0, p1⟩ := boxP2 KE.out.now.2.2.2.2.2.2.2.2.2.1
                  obtain ⟨r0, r1⟩ := boxP2 KE.out.now.2.2.2.2.2.2.2.2.2.2.2.2.2.1
                  go_wp2_with fail
                  refine (Same_e _ _ d d true (decide_eq_true rfl) _ KE.out.now.2.2.2.2.2.2.2.2.2.2.1 KE.out.now.2.2.2.2.2.2.2.2.2.2.2.2.2.2.2.1 HSD.out HSD.out).mono ?_
                  rintro e v28 ⟨rfl, hf⟩
                  have KK28 := Lib.hid (KE.out.later hf)
                  clear hf KE p0 p1 r0 r1
                  obtain ⟨p0, p1⟩ := boxP2 KK28.out.now.2.2.2.2.2.2.2.1
                  obtain ⟨r0, r1⟩ := boxP2 KK28.out.now.2.2.2.2.2.2.2.2.2.2.2.2.2.1
                  go_wp2_with fail
                  refine (Same_e _ _ d d true (decide_eq_true rfl) _ KK28.out.now.2.2.2.2.2.2.2.2.1 KK28.out.now.2.2.2.2.2.2.2.2.2.2.2.2.2.2.2.1 HSD.out HSD.out).mono ?_
                  rintro e v29 ⟨rfl, hf⟩
                  have KK29 := Lib.hid (KK28.out.later hf)
                  clear hf KK28 p0 p1 r0 r1
                  obtain ⟨p0, p1⟩ := boxP2 KK29.out.now.2.2.1
                  obtain ⟨r0, r1⟩ := boxP2 KK29.out.now.2.2.2.2.2.2.2.2.2.2.2.2.2.1
                  go_wp2_with fail
                  refine (Same_e _ _ d d true (decide_eq_true rfl) _ KK29.out.now.2.2.2.1 KK29.out.now.2.2.2.2.2.2.2.2.2.2.2.2.2.2.2.1 HSD.out HSD.out).mono ?_
                  rintro e v30 ⟨rfl, hf⟩
                  have KK30 := Lib.hid (KK29.out.later hf)
                  clear hf KK29 p0 p1 r0 r1
                  have FF := Lib.hid KK30.out.now.2.2.2.2.2.2.2.2.2.2.2.2.2.2.2.2
                  clear KK30
                  go_wp2_with fail
                  go_ret
                  exact ⟨rfl, FF.out⟩
              · have hE2 := hE.symm
                subst hE2
                clear hE
                rcases hw.2.2.2 with rfl | ⟨hed, hE⟩
                · clear hw
                  have eaa : (ea == 0) = false := beq_eq_false_iff_ne.2 hea
                  have eab : (ea = 0) = False := eq_false hea
                  clear hea
                  have eba : (eb == 0) = false := beq_eq_false_iff_ne.2 heb
                  have ebb : (eb = 0) = False := eq_false heb
                  clear heb
                  have eca : (ec == 0) = false := beq_eq_false_iff_ne.2 hec
                  have ecb : (ec = 0) = False := eq_false hec
                  clear hec
                  obtain ⟨p0, p1⟩ := boxP2 KE.out.now.2.2.2.2.2.2.2.2.2.1
                  obtain ⟨r0, r1⟩ := boxP2 KE.out.now.2.2.2.2.2.2.2.2.2.2.2.2.2.1
                  go_wp2_with fail
                  refine (Same_e _ _ d d true (decide_eq_true rfl) _ KE.out.now.2.2.2.2.2.2.2.2.2.2.1 KE.out.now.2.2.2.2.2.2.2.2.2.2.2.2.2.2.2.1 HSD.out HSD.out).mono ?_
                  rintro e v31 ⟨rfl, hf⟩
                  have KK31 := Lib.hid (KE.out.later hf)
                  clear hf KE p0 p1 r0 r1
                  obtain ⟨p0, p1⟩ := boxP2 KK31.out.now.2.2.2.2.2.2.2.1
                  obtain ⟨r0, r1⟩ := boxP2 KK31.out.now.2.2.2.2.2.2.2.2.2.2.2.2.2.1
                  go_wp2_with fail
                  refine (Same_e _ _ d d true (decide_eq_true rfl) _ KK31.out.now.2.2.2.2.2.2.2.2.1 KK31.out.now.2.2.2.2.2.2.2.2.2.2.2.2.2.2.2.1 HSD.out HSD.out).mono ?_
                  rintro e v32 ⟨rfl, hf⟩
                  have KK32 := Lib.hid (KK31.out.later hf)
                  clear hf KK31 p0 p1 r0 r1
                  obtain ⟨p0, p1⟩ := boxP2 KK32.out.now.2.2.2.2.2.1
                  obtain ⟨z0, z1⟩ := boxP2 KK32.out.now.1
                  go_wp2_with fail
                  refine (Same_e _ _ ⟨[], []⟩ ⟨[], []⟩ true (decide_eq_true rfl) _ KK32.out.now.2.2.2.2.2.2.1 KK32.out.now.2.1 HSE.out HSE.out).mono ?_
                  rintro e v33 ⟨rfl, hf⟩
                  have KK33 := Lib.hid (KK32.out.later hf)
                  clear hf KK32 p0 p1 z0 z1
                  have FF := Lib.hid KK33.out.now.2.2.2.2.2.2.2.2.2.2.2.2.2.2.2.2
                  clear KK33
                  go_wp2_with fail
                  go_ret
                  exact ⟨rfl, FF.out⟩
                · have hE2 := hE.symm
                  subst hE2
                  clear hw hE
                  have eaa : (ea == 0) = false := beq_eq_false_iff_ne.2 hea
                  have eab : (ea = 0) = False := eq_false hea
                  clear hea
                  have eba : (eb == 0) = false := beq_eq_false_iff_ne.2 heb
                  have ebb : (eb = 0) = False := eq_false heb
                  clear heb
                  have eca : (ec == 0) = false := beq_eq_false_iff_ne.2 hec
                  have ecb : (ec = 0) = False := eq_false hec
                  clear hec
                  have eda : (ed == 0) = false := beq_eq_false_iff_ne.2 hed
                  have edb : (ed = 0) = False := eq_false hed
                  clear hed
                  obtain ⟨p0, p1⟩ := boxP2 KE.out.now.2.2.2.2.2.2.2.2.2.1
                  obtain ⟨r0, r1⟩ := boxP2 KE.out.now.2.2.2.2.2.2.2.2.2.2.2.2.2.1
                  go_wp2_with fail
                  refine (Same_e _ _ d d true (decide_eq_true rfl) _ KE.out.now.2.2.2.2.2.2.2.2.2.2.1 KE.out.now.2.2.2.2.2.2.2.2.2.2.2.2.2.2.2.1 HSD.out HSD.out).mono ?_
                  rintro e v34 ⟨rfl, hf⟩
                  have KK34 := Lib.hid (KE.out.later hf)
                  clear hf KE p0 p1 r0 r1
                  obtain ⟨p0, p1⟩ := boxP2 KK34.out.now.2.2.2.2.2.2.2.1
                  obtain ⟨r0, r1⟩ := boxP2 KK34.out.now.2.2.2.2.2.2.2.2.2.2.2.2.2.1
                  go_wp2_with fail
                  refine (Same_e _ _ d d true (decide_eq_true rfl) _ KK34.out.now.2.2.2.2.2.2.2.2.1 KK34.out.now.2.2.2.2.2.2.2.2.2.2.2.2.2.2.2.1 HSD.out HSD.out).mono ?_
                  rintro e v35 ⟨rfl, hf⟩
                  have KK35 := Lib.hid (KK34.out.later hf)
                  clear hf KK34 p0 p1 r0 r1
                  obtain ⟨p0, p1⟩ := boxP2 KK35.out.now.2.2.2.2.2.1
                  obtain ⟨z0, z1⟩ := boxP2 KK35.out.now.1
                  go_wp2_with fail
                  refine (Same_e _ _ ⟨[], []⟩ ⟨[], []⟩ true (decide_eq_true rfl) _ KK35.out.now.2.2.2.2.2.2.1 KK35.out.now.2.1 HSE.out HSE.out).mono ?_
                  rintro e v36 ⟨rfl, hf⟩
                  have KK36 := Lib.hid (KK35.out.later hf)
                  clear hf KK35 p0 p1 z0 z1
                  obtain ⟨p0, p1⟩ := boxP2 KK36.out.now.2.2.1
                  obtain ⟨r0, r1⟩ := boxP2 KK36.out.now.2.2.2.2.2.2.2.2.2.2.2.2.2.1
                  go_wp2_with fail
                  refine (Same_e _ _ d d true (decide_eq_true rfl) _ KK36.out.now.2.2.2.1 KK36.out.now.2.2.2.2.2.2.2.2.2.2.2.2.2.2.2.1 HSD.out HSD.out).mono ?_
                  rintro e v37 ⟨rfl, hf⟩
                  have KK37 := Lib.hid (KK36.out.later hf)
                  clear hf KK36 p0 p1 r0 r1
                  have FF := Lib.hid KK37.out.now.2.2.2.2.2.2.2.2.2.2.2.2.2.2.2.2
                  clear KK37
                  go_wp2_with fail
                  go_ret
                  exact ⟨rfl, FF.out⟩
          · obtain ⟨q, hq⟩ : ∃ q, decide ((⟨[], []⟩ : Wd) = d) = q := ⟨_, rfl⟩
            have HQ := Lib.hid hq
            clear hq
            cases q with
            | true =>
              rcases hw.2.1 with rfl | ⟨heb, hE⟩
              · rcases hw.2.2.1 with rfl | ⟨hec, hE⟩
                · rcases hw.2.2.2 with rfl | ⟨hed, hE⟩
                  · clear hw
                    obtain ⟨p0, p1⟩ := boxP2 KE.out.now.2.2.2.2.2.2.2.2.2.1
                    obtain ⟨r0, r1⟩ := boxP2 KE.out.now.2.2.2.2.2.2.2.2.2.2.2.2.2.1
                    go_wp2_with fail
                    refine (Same_e _ _ ⟨[], []⟩ d true HQ.out _ KE.out.now.2.2.2.2.2.2.2.2.2.2.1 KE.out.now.2.2.2.2.2.2.2.2.2.2.2.2.2.2.2.1 HSE.out HSD.out).mono ?_
                    rintro e v38 ⟨rfl, hf⟩
                    have KK38 := Lib.hid (KE.out.later hf)
                    clear hf KE p0 p1 r0 r1
                    have FF := Lib.hid KK38.out.now.2.2.2.2.2.2.2.2.2.2.2.2.2.2.2.2
                    clear KK38
                    go_wp2_with fail
                    go_ret
                    exact ⟨rfl, FF.out⟩
                  · have hE2 := hE.symm
                    subst hE2
                    clear hw hE
                    have eda : (ed == 0) = false := beq_eq_false_iff_ne.2 hed
                    have edb : (ed = 0) = False := eq_false hed
                    clear hed
                    obtain ⟨p0, p1⟩ := boxP2 KE.out.now.2.2.2.2.2.2.2.2.2.1
                    obtain ⟨r0, r1⟩ := boxP2 KE.out.now.2.2.2.2.2.2.2.2.2.2.2.2.2.1
                    go_wp2_with fail
                    refine (Same_e _ _ ⟨[], []⟩ d true HQ.out _ KE.out.now.2.2.2.2.2.2.2.2.2.2.1 KE.out.now.2.2.2.2.2.2.2.2.2.2.2.2.2.2.2.1 HSE.out HSD.out).mono ?_
                    rintro e v39 ⟨rfl, hf⟩
                    have KK39 := Lib.hid (KE.out.later hf)
                    clear hf KE p0 p1 r0 r1
                    obtain ⟨p0, p1⟩ := boxP2 KK39.out.now.2.2.1
                    obtain ⟨r0, r1⟩ := boxP2 KK39.out.now.2.2.2.2.2.2.2.2.2.2.2.2.2.1
                    go_wp2_with fail
                    refine (Same_e _ _ d d true (decide_eq_true rfl) _ KK39.out.now.2.2.2.1 KK39.out.now.2.2.2.2.2.2.2.2.2.2.2.2.2.2.2.1 HSD.out HSD.out).mono ?_
                    rintro e v40 ⟨rfl, hf⟩
                    have KK40 := Lib.hid (KK39.out.later hf)
                    clear hf KK39 p0 p1 r0 r1
                    have FF := Lib.hid KK40.out.now.2.2.2.2.2.2.2.2.2.2.2.2.2.2.2.2
                    clear KK40
                    go_wp2_with fail
                    go_ret
                    exact ⟨rfl, FF.out⟩
                · have hE2 := hE.symm
                  subst hE2
                  clear hE
                  rcases hw.2.2.2 with rfl | ⟨hed, hE⟩
                  · clear hw
                    have eca : (ec == 0) = false := beq_eq_false_iff_ne.2 hec
                    have ecb : (ec = 0) = False := eq_false hec
                    clear hec
                    obtain ⟨p0, p1⟩ := boxP2 KE.out.now.2.2.2.2.2.2.2.2.2.1
                    obtain ⟨r0, r1⟩ := boxP2 KE.out.now.2.2.2.2.2.2.2.2.2.2.2.2.2.1
                    go_wp2_with fail
                    refine (Same_e _ _ ⟨[], []⟩ d true HQ.out _ KE.out.now.2.2.2.2.2.2.2.2.2.2.1 KE.out.now.2.2.2.2.2.2.2.2.2.2.2.2.2.2.2.1 HSE.out HSD.out).mono ?_
                    rintro e v41 ⟨rfl, hf⟩
                    have KK41 := Lib.hid (KE.out.later hf)
                    clear hf KE p0 p1 r0 r1
                    obtain ⟨p0, p1⟩ := boxP2 KK41.out.now.2.2.2.2.2.1
                    obtain ⟨z0, z1⟩ := boxP2 KK41.out.now.1
                    go_wp2_with fail
                    refine (Same_e _ _ ⟨[], []⟩ ⟨[], []⟩ true (decide_eq_true rfl) _ KK41.out.now.2.2.2.2.2.2.1 KK41.out.now.2.1 HSE.out HSE.out).mono ?_
                    rintro e v42 ⟨rfl, hf⟩
                    have KK42 := Lib.hid (KK41.out.later hf)
                    clear hf KK41 p0 p1 z0 z1
                    have FF := Lib.hid KK42.out.now.2.2.2.2.2.2.2.2.2.2.2.2.2.2.2.2
                    clear KK42
                    go_wp2_with fail
                    go_ret
                    exact ⟨rfl, FF.out⟩
                  · have hE2 := hE.symm
                    subst hE2
                    clear hw hE
                    have eca : (ec == 0) = false := beq_eq_false_iff_ne.2 hec
                    have ecb : (ec = 0) = False := eq_false hec
                    clear hec
                    have eda : (ed == 0) = false := beq_eq_false_iff_ne.2 hed
                    have edb : (ed = 0) = False := eq_false hed
                    clear hed
                    obtain ⟨p0, p1⟩ := boxP2 KE.out.now.2.2.2.2.2.2.2.2.2.1
                    obtain ⟨r0, r1⟩ := boxP2 KE.out.now.2.2.2.2.2.2.2.2.2.2.2.2.2.1
                    go_wp2_with fail
                    refine (Same_e _ _ ⟨[], []⟩ d true HQ.out _ KE.out.now.2.2.2.2.2.2.2.2.2.2.1 KE.out.now.2.2.2.2.2.2.2.2.2.2.2.2.2.2.2.1 HSE.out HSD.out).mono ?_
                    rintro e v43 ⟨rfl, hf⟩
                    have KK43 := Lib.hid (KE.out.later hf)
                    clear hf KE p0 p1 r0 r1
                    obtain ⟨p0, p1⟩ := boxP2 KK43.out.now.2.2.2.2.2.1
                    obtain ⟨z0, z1⟩ := boxP2 KK43.out.now.1
                    go_wp2_with fail
                    refine (Same_e _ _ ⟨[], []⟩ ⟨[], []⟩ true (decide_eq_true rfl) _ KK43.out.now.2.2.2.2.2.2.1 KK43.out.now.2.1 HSE.out HSE.out).mono ?_
                    rintro e v44 ⟨rfl, hf⟩
                    have KK44 := Lib.hid (KK43.out.later hf)
                    clear hf KK43 p0 p1 z0 z1
                    obtain ⟨p0, p1⟩ := boxP2 KK44.out.now.2.2.1
                    obtain ⟨r0, r1⟩ := boxP2 KK44.out.now.2.2.2.2.2.2.2.2.2.2.2.2.2.1
                    go_wp2_with fail
                    refine (Same_e _ _ d d true (decide_eq_true rfl) _ KK44.out.now.2.2.2.1 KK44.out.now.2.2.2.2.2.2.2.2.2.2.2.2.2.2.2.1 HSD.out HSD.out).mono ?_
                    rintro e v45 ⟨rfl, hf⟩
                    have KK45 := Lib.hid (KK44.out.later hf)
                    clear hf KK44 p0 p1 r0 r1
                    have FF := Lib.hid KK45.out.now.2.2.2.2.2.2.2.2.2.2.2.2.2.2.2.2
                    clear KK45
                    go_wp2_with fail
                    go_ret
                    exact ⟨rfl, FF.out⟩
              · have hE2 := hE.symm
                subst hE2
                clear hE
                rcases hw.2.2.1 with rfl | ⟨hec, hE⟩
                · rcases hw.2.2.2 with rfl | ⟨hed, hE⟩
                  · clear hw
                    have eba : (eb == 0) = false := beq_eq_false_iff_ne.2 heb
                    have ebb : (eb = 0) = False := eq_false heb
                    clear heb
                    obtain ⟨p0, p1⟩ := boxP2 KE.out.now.2.2.2.2.2.2.2.2.2.1
                    obtain ⟨r0, r1⟩ := boxP2 KE.out.now.2.2.2.2.2.2.2.2.2.2.2.2.2.1
                    go_wp2_with fail
                    refine (Same_e _ _ ⟨[], []⟩ d true HQ.out _ KE.out.now.2.2.2.2.2.2.2.2.2.2.1 KE.out.now.2.2.2.2.2.2.2.2.2.2.2.2.2.2.2.1 HSE.out HSD.out).mono ?_
                    rintro e v46 ⟨rfl, hf⟩
                    have KK46 := Lib.hid (KE.out.later hf)
                    clear hf KE p0 p1 r0 r1
                    obtain ⟨p0, p1⟩ := boxP2 KK46.out.now.2.2.2.2.2.2.2.1
                    obtain ⟨r0, r1⟩ := boxP2 KK46.out.now.2.2.2.2.2.2.2.2.2.2.2.2.2.1
                    go_wp2_with fail
                    refine (Same_e _ _ d d true (decide_eq_true rfl) _ KK46.out.now.2.2.2.2.2.2.2.2.1 KK46.out.now.2.2.2.2.2.2.2.2.2.2.2.2.2.2.2.1 HSD.out HSD.out).mono ?_
                    rintro e v47 ⟨rfl, hf⟩
                    have KK47 := Lib.hid (KK46.out.later hf)
                    clear hf KK46 p0 p1 r0 r1
                    have FF := Lib.hid KK47.out.now.2.2.2.2.2.2.2.2.2.2.2.2.2.2.2.2
                    clear KK47
                    go_wp2_with fail
                    go_ret
                    exact ⟨rfl, FF.out⟩
                  · have hE2 := hE.symm
                    subst hE2
                    clear hw hE
                    have eba : (eb == 0) = false := beq_eq_false_iff_ne.2 heb
                    have ebb : (eb = 0) = False := eq_false heb
                    clear heb
                    have eda : (ed == 0) = false := beq_eq_false_iff_ne.2 hed
                    have edb : (ed = 0) = False := eq_false hed
                    clear hed
                    obtain ⟨p0, p1⟩ := boxP2 KE.out.now.2.2.2.2.2.2.2.2.2.1
                    obtain ⟨r0, r1⟩ := boxP2 KE.out.now.2.2.2.2.2.2.2.2.2.2.2.2.2.1
                    go_wp2_with fail
                    refine (Same_e _ _ ⟨[], []⟩ d true HQ.out _ KE.out.now.2.2.2.2.2.2.2.2.2.2.1 KE.out.now.2.2.2.2.2.2.2.2.2.2.2.2.2.2.2.1 HSE.out HSD.out).mono ?_
                    rintro e v48 ⟨rfl, hf⟩
                    have KK48 := Lib.hid (KE.out.later hf)
                    clear hf KE p0 p1 r0 r1
                    obtain ⟨p0, p1⟩ := boxP2 KK48.out.now.2.2.2.2.2.2.2.1
                    obtain ⟨r0, r1⟩ := boxP2 KK48.out.now.2.2.2.2.2.2.2.2.2.2.2.2.2.1
                    go_wp2_with fail
                    refine (Same_e _ _ d d true (decide_eq_true rfl) _ KK48.out.now.2.2.2.2.2.2.2.2.1 KK48.out.now.2.2.2.2.2.2.2.2.2.2.2.2.2.2.2.1 HSD.out HSD.out).mono ?_
                    rintro e v49 ⟨rfl, hf⟩
                    have KK49 := Lib.hid (KK48.out.later hf)
                    clear hf KK48 p0 p1 r0 r1
                    obtain ⟨p0, p1⟩ := boxP2 KK49.out.now.2.2.1
                    obtain ⟨r0, r1⟩ := boxP2 KK49.out.now.2.2.2.2.2.2.2.2.2.2.2.2.2.1
                    go_wp2_with fail
                    refine (Same_e _ _ d d true (decide_eq_true rfl) _ KK49.out.now.2.2.2.1 KK49.out.now.2.2.2.2.2.2.2.2.2.2.2.2.2.2.2.1 HSD.out HSD.out).mono ?_
                    rintro e v50 ⟨rfl, hf⟩
                    have KK50 := Lib.hid (KK49.out.later hf)
                    clear hf KK49 p0 p1 r0 r1
                    have FF := Lib.hid KK50.out.now.2.2.2.2.2.2.2.2.2.2.2.2.2.2.2.2
                    clear KK50
                    go_wp2_with fail
                    go_ret
                    exact ⟨rfl, FF.out⟩
                · have hE2 := hE.symm
                  subst hE2
                  clear hE
                  rcases hw.2.2.2 with rfl | ⟨hed, hE⟩
                  · clear hw
                    have eba : (eb == 0) = false := beq_eq_false_iff_ne.2 heb
                    have ebb : (eb = 0) = False := eq_false heb
                    clear heb
                    have eca : (ec == 0) = false := beq_eq_false_iff_ne.2 hec
                    have ecb : (ec = 0) = False := eq_false hec
                    clear hec
                    obtain ⟨p0, p1⟩ := boxP2 KE.out.now.2.2.2.2.2.2.2.2.2.1
                    obtain ⟨r0, r1⟩ := boxP2 KE.out.now.2.2.2.2.2.2.2.2.2.2.2.2.2.1
                    go_wp2_with fail
                    refine (Same_e _ _ ⟨[], []⟩ d true HQ.out _ KE.out.now.2.2.2.2.2.2.2.2.2.2.1 KE.out.now.2.2.2.2.2.2.2.2.2.2.2.2.2.2.2.1 HSE.out HSD.out).mono ?_
                    rintro e v51 ⟨rfl, hf⟩
                    have KK51 := Lib.hid (KE.out.later hf)
                    clear hf KE p0 p1 r0 r1
                    obtain ⟨p0, p1⟩ := boxP2 KK51.out.now.2.2.2.2.2.2.2.1
                    obtain ⟨r0, r1⟩ := boxP2 KK51.out.now.2.2.2.2.2.2.2.2.2.2.2.2.2.1
                    go_wp2_with fail
                    refine (Same_e _ _ d d true (decide_eq_true rfl) _ KK51.out.now.2.2.2.2.2.2.2.2.1 KK51.out.now.2.2.2.2.2.2.2.2.2.2.2.2.2.2.2.1 HSD.out HSD.out).mono ?_
                    rintro e v52 ⟨rfl, hf⟩
                    have KK52 := Lib.hid (KK51.out.later hf)
                    clear hf KK51 p0 p1 r0 r1
                    obtain ⟨p0, p1⟩ := boxP2 KK52.out.now.2.2.2.2.2.1
                    obtain ⟨z0, z1⟩ := boxP2 KK52.out.now.1
                    go_wp2_with fail
                    refine (Same_e _ _ ⟨[], []⟩ ⟨[], []⟩ true (decide_eq_true rfl) _ KK52.out.now.2.2.2.2.2.2.1 KK52.out.now.2.1 HSE.out HSE.out).mono ?_
                    rintro e v53 ⟨rfl, hf⟩
                    have KK53 := Lib.hid (KK52.out.later hf)
                    clear hf KK52 p0 p1 z0 z1
                    have FF := Lib.hid KK53.out.now.2.2.2.2.2.2.2.2.2.2.2.2.2.2.2.2
                    clear KK53
                    go_wp2_with fail
                    go_ret
                    exact ⟨rfl, FF.out⟩
                  · have hE2 := hE.symm
                    subst hE2
                    clear hw hE
                    have eba : (eb == 0) = false := beq_eq_false_iff_ne.2 heb
                    have ebb : (eb = 0) = False := eq_false heb
                    clear heb
                    have eca : (ec == 0) = false := beq_eq_false_iff_ne.2 hec
                    have ecb : (ec = 0) = False := eq_false hec
                    clear hec
                    have eda : (ed == 0) = false := beq_eq_false_iff_ne.2 hed
                    have edb : (ed = 0) = False := eq_false hed
                    clear hed
                    obtain ⟨p0, p1⟩ := boxP2 KE.out.now.2.2.2.2.2.2.2.2.2.1
                    obtain ⟨r0, r1⟩ := boxP2 KE.out.now.2.2.2.2.2.2.2.2.2.2.2.2.2.1
                    go_wp2_with fail
                    refine (Same_e _ _ ⟨[], []⟩ d true HQ.out _ KE.out.now.2.2.2.2.2.2.2.2.2.2.1 KE.out.now.2.2.2.2.2.2.2.2.2.2.2.2.2.2.2.1 HSE.out HSD.out).mono ?_
                    rintro e v54 ⟨rfl, hf⟩
                    have KK54 := Lib.hid (KE.out.later hf)
                    clear hf KE p0 p1 r0 r1
                    obtain ⟨p0, p1⟩ := boxP2 KK54.out.now.2.2.2.2.2.2.2.1
                    obtain ⟨r0, r1⟩ := boxP2 KK54.out.now.2.2.2.2.2.2.2.2.2.2.2.2.2.1
                    go_wp2_with fail
                    refine (Same_e _ _ d d true (decide_eq_true rfl) _ KK54.out.now.2.2.2.2.2.2.2.2.1 KK54.out.now.2.2.2.2.2.2.2.2.2.2.2.2.2.2.2.1 HSD.out HSD.out).mono ?_
                    rintro e v55 ⟨rfl, hf⟩
                    have KK55 := Lib.hid (KK54.out.later hf)
                    clear hf KK54 p0 p1 r0 r1
                    obtain ⟨p0, p1⟩ := boxP2 KK55.out.now.2.2.2.2.2.1
                    obtain ⟨z0, z1⟩ := boxP2 KK55.out.now.1
                    go_wp2_with fail
                    refine (Same_e _ _ ⟨[], []⟩ ⟨[], []⟩ true (decide_eq_true rfl) _ KK55.out.now.2.2.2.2.2.2.1 KK55.out.now.2.1 HSE.out HSE.out).mono ?_
                    rintro e v56 ⟨rfl, hf⟩
                    have KK56 := Lib.hid (KK55.out.later hf)
                    clear hf KK55 p0 p1 z0 z1
                    obtain ⟨p0, p1⟩ := boxP2 KK56.out.now.2.2.1
                    obtain ⟨r0, r1⟩ := boxP2 KK56.out.now.2.2.2.2.2.2.2.2.2.2.2.2.2.1
                    go_wp2_with fail
                    refine (Same_e _ _ d d true (decide_eq_true rfl) _ KK56.out.now.2.2.2.1 KK56.out.now.2.2.2.2.2.2.2.2.2.2.2.2.2.2.2.1 HSD.out HSD.out).mono ?_
                    rintro e v57 ⟨rfl, hf⟩
                    have KK57 := Lib.hid (KK56.out.later hf)
                    clear hf KK56 p0 p1 r0 r1
                    have FF := Lib.hid KK57.out.now.2.2.2.2.2.2.2.2.2.2.2.2.2.2.2.2
                    clear KK57
                    go_wp2_with fail
                    go_ret
                    exact ⟨rfl, FF.out⟩
            | false =>
              rcases hw.2.1 with rfl | ⟨heb, hE⟩
              · rcases hw.2.2.1 with rfl | ⟨hec, hE⟩
                · rcases hw.2.2.2 with rfl | ⟨hed, hE⟩
                  · clear hw
                    obtain ⟨p0, p1⟩ := boxP2 KE.out.now.2.2.2.2.2.2.2.2.2.1
                    obtain ⟨r0, r1⟩ := boxP2 KE.out.now.2.2.2.2.2.2.2.2.2.2.2.2.2.1
                    go_wp2_with fail
                    refine (Same_e _ _ ⟨[], []⟩ d false HQ.out _ KE.out.now.2.2.2.2.2.2.2.2.2.2.1 KE.out.now.2.2.2.2.2.2.2.2.2.2.2.2.2.2.2.1 HSE.out HSD.out).mono ?_
                    rintro e v58 ⟨rfl, hf⟩
                    have KK58 := Lib.hid (KE.out.later hf)
                    clear hf KE p0 p1 r0 r1
                    obtain ⟨p0, p1⟩ := boxP2 KK58.out.now.2.2.2.2.2.2.2.2.2.1
                    obtain ⟨z0, z1⟩ := boxP2 KK58.out.now.1
                    go_wp2_with fail
                    refine (Same_e _ _ ⟨[], []⟩ ⟨[], []⟩ true (decide_eq_true rfl) _ KK58.out.now.2.2.2.2.2.2.2.2.2.2.1 KK58.out.now.2.1 HSE.out HSE.out).mono ?_
                    rintro e v59 ⟨rfl, hf⟩
                    have KK59 := Lib.hid (KK58.out.later hf)
                    clear hf KK58 p0 p1 z0 z1
                    have FF := Lib.hid KK59.out.now.2.2.2.2.2.2.2.2.2.2.2.2.2.2.2.2
                    clear KK59
                    go_wp2_with fail
                    go_ret
                    exact ⟨rfl, FF.out⟩
                  · have hE2 := hE.symm
                    subst hE2
                    clear hw hE
                    have eda : (ed == 0) = false := beq_eq_false_iff_ne.2 hed
                    have edb : (ed = 0) = False := eq_false hed
                    clear hed
                    obtain ⟨p0, p1⟩ := boxP2 KE.out.now.2.2.2.2.2.2.2.2.2.1
                    obtain ⟨r0, r1⟩ := boxP2 KE.out.now.2.2.2.2.2.2.2.2.2.2.2.2.2.1
                    go_wp2_with fail
                    refine (Same_e _ _ ⟨[], []⟩ d false HQ.out _ KE.out.now.2.2.2.2.2.2.2.2.2.2.1 KE.out.now.2.2.2.2.2.2.2.2.2.2.2.2.2.2.2.1 HSE.out HSD.out).mono ?_
                    rintro e v60 ⟨rfl, hf⟩
                    have KK60 := Lib.hid (KE.out.later hf)
                    clear hf KE p0 p1 r0 r1
                    obtain ⟨p0, p1⟩ := boxP2 KK60.out.now.2.2.2.2.2.2.2.2.2.1
                    obtain ⟨z0, z1⟩ := boxP2 KK60.out.now.1
                    go_wp2_with fail
                    refine (Same_e _ _ ⟨[], []⟩ ⟨[], []⟩ true (decide_eq_true rfl) _ KK60.out.now.2.2.2.2.2.2.2.2.2.2.1 KK60.out.now.2.1 HSE.out HSE.out).mono ?_
                    rintro e v61 ⟨rfl, hf⟩
                    have KK61 := Lib.hid (KK60.out.later hf)
                    clear hf KK60 p0 p1 z0 z1
                    obtain ⟨p0, p1⟩ := boxP2 KK61.out.now.2.2.1
                    obtain ⟨r0, r1⟩ := boxP2 KK61.out.now.2.2.2.2.2.2.2.2.2.2.2.2.2.1
                    go_wp2_with fail
                    refine (Same_e _ _ d d true (decide_eq_true rfl) _ KK61.out.now.2.2.2.1 KK61.out.now.2.2.2.2.2.2.2.2.2.2.2.2.2.2.2.1 HSD.out HSD.out).mono ?_
                    rintro e v62 ⟨rfl, hf⟩
                    have KK62 := Lib.hid (KK61.out.later hf)
                    clear hf KK61 p0 p1 r0 r1
                    have FF := Lib.hid KK62.out.now.2.2.2.2.2.2.2.2.2.2.2.2.2.2.2.2
                    clear KK62
                    go_wp2_with fail
                    go_ret
                    exact ⟨rfl, FF.out⟩
                · have hE2 := hE.symm
                  subst hE2
                  clear hE
                  rcases hw.2.2.2 with rfl | ⟨hed, hE⟩
                  · clear hw
                    have eca : (ec == 0) = false := beq_eq_false_iff_ne.2 hec
                    have ecb : (ec = 0) = False := eq_false hec
                    clear hec
                    obtain ⟨p0, p1⟩ := boxP2 KE.out.now.2.2.2.2.2.2.2.2.2.1
                    obtain ⟨r0, r1⟩ := boxP2 KE.out.now.2.2.2.2.2.2.2.2.2.2.2.2.2.1
                    go_wp2_with fail
                    refine (Same_e _ _ ⟨[], []⟩ d false HQ.out _ KE.out.now.2.2.2.2.2.2.2.2.2.2.1 KE.out.now.2.2.2.2.2.2.2.2.2.2.2.2.2.2.2.1 HSE.out HSD.out).mono ?_
                    rintro e v63 ⟨rfl, hf⟩
                    have KK63 := Lib.hid (KE.out.later hf)
                    clear hf KE p0 p1 r0 r1
                    obtain ⟨p0, p1⟩ := boxP2 KK63.out.now.2.2.2.2.2.2.2.2.2.1
                    obtain ⟨z0, z1⟩ := boxP2 KK63.out.now.1
                    go_wp2_with fail
                    refine (Same_e _ _ ⟨[], []⟩ ⟨[], []⟩ true (decide_eq_true rfl) _ KK63.out.now.2.2.2.2.2.2.2.2.2.2.1 KK63.out.now.2.1 HSE.out HSE.out).mono ?_
                    rintro e v64 ⟨rfl, hf⟩
                    have KK64 := Lib.hid (KK63.out.later hf)
                    clear hf KK63 p0 p1 z0 z1
                    obtain ⟨p0, p1⟩ := boxP2 KK64.out.now.2.2.2.2.2.1
                    obtain ⟨z0, z1⟩ := boxP2 KK64.out.now.1
                    go_wp2_with fail
                    refine (Same_e _ _ ⟨[], []⟩ ⟨[], []⟩ true (decide_eq_true rfl) _ KK64.out.now.2.2.2.2.2.2.1 KK64.out.now.2.1 HSE.out HSE.out).mono ?_
                    rintro e v65 ⟨rfl, hf⟩
                    have KK65 := Lib.hid (KK64.out.later hf)
                    clear hf KK64 p0 p1 z0 z1
                    have FF := Lib.hid KK65.out.now.2.2.2.2.2.2.2.2.2.2.2.2.2.2.2.2
                    clear KK65
                    go_wp2_with fail
                    go_ret
                    exact ⟨rfl, FF.out⟩
                  · have hE2 := hE.symm
                    subst hE2
                    clear hw hE
                    have eca : (ec == 0) = false := beq_eq_false_iff_ne.2 hec
                    have ecb : (ec = 0) = False := eq_false hec
                    clear hec
                    have eda : (ed == 0) = false := beq_eq_false_iff_ne.2 hed
                    have edb : (ed = 0) = False := eq_false hed
                    clear hed
                    obtain ⟨p0, p1⟩ := boxP2 KE.out.now.2.2.2.2.2.2.2.2.2.1
                    obtain ⟨r0, r1⟩ := boxP2 KE.out.now.2.2.2.2.2.2.2.2.2.2.2.2.2.1
                    go_wp2_with fail
                    refine (Same_e _ _ ⟨[], []⟩ d false HQ.out _ KE.out.now.2.2.2.2.2.2.2.2.2.2.1 KE.out.now.2.2.2.2.2.2.2.2.2.2.2.2.2.2.2.1 HSE.out HSD.out).mono ?_
                    rintro e v66 ⟨rfl, hf⟩
                    have KK66 := Lib.hid (KE.out.later hf)
                    clear hf KE p0 p1 r0 r1
                    obtain ⟨p0, p1⟩ := boxP2 KK66.out.now.2.2.2.2.2.2.2.2.2.1
                    obtain ⟨z0, z1⟩ := boxP2 KK66.out.now.1
                    go_wp2_with fail
                    refine (Same_e _ _ ⟨[], []⟩ ⟨[], []⟩ true (decide_eq_true rfl) _ KK66.out.now.2.2.2.2.2.2.2.2.2.2.1 KK66.out.now.2.1 HSE.out HSE.out).mono ?_
                    rintro e v67 ⟨rfl, hf⟩
                    have KK67 := Lib.hid (KK66.out.later hf)
                    clear hf KK66 p0 p1 z0 z1
                    obtain ⟨p0, p1⟩ := boxP2 KK67.out.now.2.2.2.2.2.1
                    obtain ⟨z0, z1⟩ := boxP2 KK67.out.now.1
                    go_wp2_with fail
                    refine (Same_e _ _ ⟨[], []⟩ ⟨[], []⟩ true (decide_eq_true rfl) _ KK67.out.now.2.2.2.2.2.2.1 KK67.out.now.2.1 HSE.out HSE.out).mono ?_
                    rintro e v68 ⟨rfl, hf⟩
                    have KK68 := Lib.hid (KK67.out.later hf)
                    clear hf KK67 p0 p1 z0 z1
                    obtain ⟨p0, p1⟩ := boxP2 KK68.out.now.2.2.1
                    obtain ⟨r0, r1⟩ := boxP2 KK68.out.now.2.2.2.2.2.2.2.2.2.2.2.2.2.1
                    go_wp2_with fail
                    refine (Same_e _ _ d d true (decide_eq_true rfl) _ KK68.out.now.2.2.2.1 KK68.out.now.2.2.2.2.2.2.2.2.2.2.2.2.2.2.2.1 HSD.out HSD.out).mono ?_
                    rintro e v69 ⟨rfl, hf⟩
                    have KK69 := Lib.hid (KK68.out.later hf)
                    clear hf KK68 p0 p1 r0 r1
                    have FF := Lib.hid KK69.out.now.2.2.2.2.2.2.2.2.2.2.2.2.2.2.2.2
                    clear KK69
                    go_wp2_with fail
                    go_ret
                    exact ⟨rfl, FF.out⟩
              · have hE2 := hE.symm
                subst hE2
                clear hE
                rcases hw.2.2.1 with rfl | ⟨hec, hE⟩
                · rcases hw.2.2.2 with rfl | ⟨hed, hE⟩
                  · clear hw
                    have eba : (eb == 0) = false := beq_eq_false_iff_ne.2 heb
                    have ebb : (eb = 0) = False := eq_false heb
                    clear heb
                    obtain ⟨p0, p1⟩ := boxP2 KE.out.now.2.2.2.2.2.2.2.2.2.1
                    obtain ⟨r0, r1⟩ := boxP2 KE.out.now.2.2.2.2.2.2.2.2.2.2.2.2.2.1
                    go_wp2_with fail
                    refine (Same_e _ _ ⟨[], []⟩ d false HQ.out _ KE.out.now.2.2.2.2.2.2.2.2.2.2.1 KE.out.now.2.2.2.2.2.2.2.2.2.2.2.2.2.2.2.1 HSE.out HSD.out).mono ?_
                    rintro e v70 ⟨rfl, hf⟩
                    have KK70 := Lib.hid (KE.out.later hf)
                    clear hf KE p0 p1 r0 r1
                    obtain ⟨p0, p1⟩ := boxP2 KK70.out.now.2.2.2.2.2.2.2.2.2.1
                    obtain ⟨z0, z1⟩ := boxP2 KK70.out.now.1
                    go_wp2_with fail
                    refine (Same_e _ _ ⟨[], []⟩ ⟨[], []⟩ true (decide_eq_true rfl) _ KK70.out.now.2.2.2.2.2.2.2.2.2.2.1 KK70.out.now.2.1 HSE.out HSE.out).mono ?_
                    rintro e v71 ⟨rfl, hf⟩
                    have KK71 := Lib.hid (KK70.out.later hf)
                    clear hf KK70 p0 p1 z0 z1
                    obtain ⟨p0, p1⟩ := boxP2 KK71.out.now.2.2.2.2.2.2.2.1
                    obtain ⟨r0, r1⟩ := boxP2 KK71.out.now.2.2.2.2.2.2.2.2.2.2.2.2.2.1
                    go_wp2_with fail
                    refine (Same_e _ _ d d true (decide_eq_true rfl) _ KK71.out.now.2.2.2.2.2.2.2.2.1 KK71.out.now.2.2.2.2.2.2.2.2.2.2.2.2.2.2.2.1 HSD.out HSD.out).mono ?_
                    rintro e v72 ⟨rfl, hf⟩
                    have KK72 := Lib.hid (KK71.out.later hf)
                    clear hf KK71 p0 p1 r0 r1
                    have FF := Lib.hid KK72.out.now.2.2.2.2.2.2.2.2.2.2.2.2.2.2.2.2
                    clear KK72
                    go_wp2_with fail
                    go_ret
                    exact ⟨rfl, FF.out⟩
                  · have hE2 := hE.symm
                    subst hE2
                    clear hw hE
                    have eba : (eb == 0) = false := beq_eq_false_iff_ne.2 heb
                    have ebb : (eb = 0) = False := eq_false heb
                    clear heb
                    have eda : (ed == 0) = false := beq_eq_false_iff_ne.2 hed
                    have edb : (ed = 0) = False := eq_false hed
                    clear hed
                    obtain ⟨p0, p1⟩ := boxP2 KE.out.now.2.2.2.2.2.2.2.2.2.1
                    obtain ⟨r0, r1⟩ := boxP2 KE.out.now.2.2.2.2.2.2.2.2.2.2.2.2.2.1
                    go_wp2_with fail
                    refine (Same_e _ _ ⟨[], []⟩ d false HQ.out _ KE.out.now.2.2.2.2.2.2.2.2.2.2.1 KE.out.now.2.2.2.2.2.2.2.2.2.2.2.2.2.2.2.1 HSE.out HSD.out).mono ?_
                    rintro e v73 ⟨rfl, hf⟩
                    have KK73 := Lib.hid (KE.out.later hf)
                    clear hf KE p0 p1 r0 r1
                    obtain ⟨p0, p1⟩ := boxP2 KK73.out.now.2.2.2.2.2.2.2.2.2.1
                    obtain ⟨z0, z1⟩ := boxP2 KK73.out.now.1
                    go_wp2_with fail
                    refine (Same_e _ _ ⟨[], []⟩ ⟨[], []⟩ true (decide_eq_true rfl) _ KK73.out.now.2.2.2.2.2.2.2.2.2.2.1 KK73.out.now.2.1 HSE.out HSE.out).mono ?_
                    rintro e v74 ⟨rfl, hf⟩
                    have KK74 := Lib.hid (KK73.out.later hf)
                    clear hf KK73 p0 p1 z0 z1
                    obtain ⟨p0, p1⟩ := boxP2 KK74.out.now.2.2.2.2.2.2.2.1
                    obtain ⟨r0, r1⟩ := boxP2 KK74.out.now.2.2.2.2.2.2.2.2.2.2.2.2.2.1
                    go_wp2_with fail
                    refine (Same_e _ _ d d true (decide_eq_true rfl) _ KK74.out.now.2.2.2.2.2.2.2.2.1 KK74.out.now.2.2.2.2.2.2.2.2.2.2.2.2.2.2.2.1 HSD.out HSD.out).mono ?_
                    rintro e v75 ⟨rfl, hf⟩
                    have KK75 := Lib.hid (KK74.out.later hf)
                    clear hf KK74 p0 p1 r0 r1
                    obtain ⟨p0, p1⟩ := boxP2 KK75.out.now.2.2.1
                    obtain ⟨r0, r1⟩ := boxP2 KK75.out.now.2.2.2.2.2.2.2.2.2.2.2.2.2.1
                    go_wp2_with fail
                    refine (Same_e _ _ d d true (decide_eq_true rfl) _ KK75.out.now.2.2.2.1 KK75.out.now.2.2.2.2.2.2.2.2.2.2.2.2.2.2.2.1 HSD.out HSD.out).mono ?_
                    rintro e v76 ⟨rfl, hf⟩
                    have KK76 := Lib.hid (KK75.out.later hf)
                    clear hf KK75 p0 p1 r0 r1
                    have FF := Lib.hid KK76.out.now.2.2.2.2.2.2.2.2.2.2.2.2.2.2.2.2
                    clear KK76
                    go_wp2_with fail
                    go_ret
                    exact ⟨rfl, FF.out⟩
                · have hE2 := hE.symm
                  subst hE2
                  clear hE
                  rcases hw.2.2.2 with rfl | ⟨hed, hE⟩
                  · clear hw
                    have eba : (eb == 0) = false := beq_eq_false_iff_ne.2 heb
                    have ebb : (eb = 0) = False := eq_false heb
                    clear heb
                    have eca : (ec == 0) = false := beq_eq_false_iff_ne.2 hec
                    have ecb : (ec = 0) = False := eq_false hec
                    clear hec
                    obtain ⟨p0, p1⟩ := boxP2 KE.out.now.2.2.2.2.2.2.2.2.2.1
                    obtain ⟨r0, r1⟩ := boxP2 KE.out.now.2.2.2.2.2.2.2.2.2.2.2.2.2.1
                    go_wp2_with fail
                    refine (Same_e _ _ ⟨[], []⟩ d false HQ.out _ KE.out.now.2.2.2.2.2.2.2.2.2.2.1 KE.out.now.2.2.2.2.2.2.2.2.2.2.2.2.2.2.2.1 HSE.out HSD.out).mono ?_
                    rintro e v77 ⟨rfl, hf⟩
                    have KK77 := Lib.hid (KE.out.later hf)
                    clear hf KE p0 p1 r0 r1
                    obtain ⟨p0, p1⟩ := boxP2 KK77.out.now.2.2.2.2.2.2.2.2.2.1
                    obtain ⟨z0, z1⟩ := boxP2 KK77.out.now.1
                    go_wp2_with fail
                    refine (Same_e _ _ ⟨[], []⟩ ⟨[], []⟩ true (decide_eq_true rfl) _ KK77.out.now.2.2.2.2.2.2.2.2.2.2.1 KK77.out.now.2.1 HSE.out HSE.out).mono ?_
                    rintro e v78 ⟨rfl, hf⟩
                    have KK78 := Lib.hid (KK77.out.later hf)
                    clear hf KK77 p0 p1 z0 z1
                    obtain ⟨p0, p1⟩ := boxP2 KK78.out.now.2.2.2.2.2.2.2.1
                    obtain ⟨r0, r1⟩ := boxP2 KK78.out.now.2.2.2.2.2.2.2.2.2.2.2.2.2.1
                    go_wp2_with fail
                    refine (Same_e _ _ d d true (decide_eq_true rfl) _ KK78.out.now.2.2.2.2.2.2.2.2.1 KK78.out.now.2.2.2.2.2.2.2.2.2.2.2.2.2.2.2.1 HSD.out HSD.out).mono ?_
                    rintro e v79 ⟨rfl, hf⟩
                    have KK79 := Lib.hid (KK78.out.later hf)
                    clear hf KK78 p0 p1 r0 r1
                    obtain ⟨p0, p1⟩ := boxP2 KK79.out.now.2.2.2.2.2.1
                    obtain ⟨z0, z1⟩ := boxP2 KK79.out.now.1
                    go_wp2_with fail
                    refine (Same_e _ _ ⟨[], []⟩ ⟨[], []⟩ true (decide_eq_true rfl) _ KK79.out.now.2.2.2.2.2.2.1 KK79.out.now.2.1 HSE.out HSE.out).mono ?_
                    rintro e v80 ⟨rfl, hf⟩
                    have KK80 := Lib.hid (KK79.out.later hf)
                    clear hf KK79 p0 p1 z0 z1
                    have FF := Lib.hid KK80.out.now.2.2.2.2.2.2.2.2.2.2.2.2.2.2.2.2
                    clear KK80
                    go_wp2_with fail
                    go_ret
                    exact ⟨rfl, FF.out⟩
                  · have hE2 := hE.symm
                    subst hE2
                    clear hw hE
                    have eba : (eb == 0) = false := beq_eq_false_iff_ne.2 heb
                    have ebb : (eb = 0) = False := eq_false heb
                    clear heb
                    have eca : (ec == 0) = false := beq_eq_false_iff_ne.2 hec
                    have ecb : (ec = 0) = False := eq_false hec
                    clear hec
                    have eda : (ed == 0) = false := beq_eq_false_iff_ne.2 hed
                    have edb : (ed = 0) = False := eq_false hed
                    clear hed
                    obtain ⟨p0, p1⟩ := boxP2 KE.out.now.2.2.2.2.2.2.2.2.2.1
                    obtain ⟨r0, r1⟩ := boxP2 KE.out.now.2.2.2.2.2.2.2.2.2.2.2.2.2.1
                    go_wp2_with fail
                    refine (Same_e _ _ ⟨[], []⟩ d false HQ.out _ KE.out.now.2.2.2.2.2.2.2.2.2.2.1 KE.out.now.2.2.2.2.2.2.2.2.2.2.2.2.2.2.2.1 HSE.out HSD.out).mono ?_
                    rintro e v81 ⟨rfl, hf⟩
                    have KK81 := Lib.hid (KE.out.later hf)
                    clear hf KE p0 p1 r0 r1
                    obtain ⟨p0, p1⟩ := boxP2 KK81.out.now.2.2.2.2.2.2.2.2.2.1
                    obtain ⟨z0, z1⟩ := boxP2 KK81.out.now.1
                    go_wp2_with fail
                    refine (Same_e _ _ ⟨[], []⟩ ⟨[], []⟩ true (decide_eq_true rfl) _ KK81.out.now.2.2.2.2.2.2.2.2.2.2.1 KK81.out.now.2.1 HSE.out HSE.out).mono ?_
                    rintro e v82 ⟨rfl, hf⟩
                    have KK82 := Lib.hid (KK81.out.later hf)
                    clear hf KK81 p0 p1 z0 z1
                    obtain ⟨p0, p1⟩ := boxP2 KK82.out.now.2.2.2.2.2.2.2.1
                    obtain ⟨r0, r1⟩ := boxP2 KK82.out.now.2.2.2.2.2.2.2.2.2.2.2.2.2.1
                    go_wp2_with fail
                    refine (Same_e _ _ d d true (decide_eq_true rfl) _ KK82.out.now.2.2.2.2.2.2.2.2.1 KK82.out.now.2.2.2.2.2.2.2.2.2.2.2.2.2.2.2.1 HSD.out HSD.out).mono ?_
                    rintro e v83 ⟨rfl, hf⟩
                    have KK83 := Lib.hid (KK82.out.later hf)
                    clear hf KK82 p0 p1 r0 r1
                    obtain ⟨p0, p1⟩ := boxP2 KK83.out.now.2.2.2.2.2.1
                    obtain ⟨z0, z1⟩ := boxP2 KK83.out.now.1
                    go_wp2_with fail
                    refine (Same_e _ _ ⟨[], []⟩ ⟨[], []⟩ true (decide_eq_true rfl) _ KK83.out.now.2.2.2.2.2.2.1 KK83.out.now.2.1 HSE.out HSE.out).mono ?_
                    rintro e v84 ⟨rfl, hf⟩
                    have KK84 := Lib.hid (KK83.out.later hf)
                    clear hf KK83 p0 p1 z0 z1
                    obtain ⟨p0, p1⟩ := boxP2 KK84.out.now.2.2.1
                    obtain ⟨r0, r1⟩ := boxP2 KK84.out.now.2.2.2.2.2.2.2.2.2.2.2.2.2.1
                    go_wp2_with fail
                    refine (Same_e _ _ d d true (decide_eq_true rfl) _ KK84.out.now.2.2.2.1 KK84.out.now.2.2.2.2.2.2.2.2.2.2.2.2.2.2.2.1 HSD.out HSD.out).mono ?_
                    rintro e v85 ⟨rfl, hf⟩
                    have KK85 := Lib.hid (KK84.out.later hf)
                    clear hf KK84 p0 p1 r0 r1
                    have FF := Lib.hid KK85.out.now.2.2.2.2.2.2.2.2.2.2.2.2.2.2.2.2
                    clear KK85
                    go_wp2_with fail
                    go_ret
                    exact ⟨rfl, FF.out⟩
end Go.Proofs.Ythgcmkgfmmjmaaa
