/- The document's Same (gen_zb.py) -/
import Derived.Test.YtjdpbieifcjmiaaZa
namespace Go.Proofs.Ytjdpbieifcjmiaa
set_option maxRecDepth 20000
set_option linter.unusedVariables false
set_option linter.unusedSimpArgs false
open Go.RowKit Pm


theorem Wd.ext2 {a b : Wd} (h1 : a.ws = b.ws) (h2 : a.ss = b.ss) : a = b := by cases a; cases b; simp_all
theorem Se.ext2 {a b : Se} (h1 : a.num = b.num) (h2 : a.count = b.count) (h3 : a.evs = b.evs) : a = b := by cases a; cases b; simp_all
set_option maxHeartbeats 8000000 in
theorem Same_c (v u : Value) (a b : Wd) (w : World) (hv : WdR w v a) (hu : WdR w u b) (hsa : a.ws.length ≤ 100000 ∧ a.ss.length ≤ 100000 ∧ ∀ s ∈ a.ss, s.evs.length ≤ 100000) (hsb : b.ws.length ≤ 100000 ∧ b.ss.length ≤ 100000 ∧ ∀ s ∈ b.ss, s.evs.length ≤ 100000) :
    Calls Try.prog 18 #[v, u] w fun e w' => e = .returned (.bool (decide (a = b))) ∧ Fp Non w w' := by
  obtain ⟨vw, vs, rfl, hw, hs⟩ := hv.ex
  obtain ⟨uw, us, rfl, gw, gs⟩ := hu.ex
  obtain ⟨L, hL, hs1, hs2⟩ := hs.ex
  obtain ⟨M, hM, gs1, gs2⟩ := gs.ex
  obtain ⟨aw, cw, rfl⟩ := hw.shape
  obtain ⟨at_, cs, rfl⟩ := hs1.shape
  obtain ⟨bw, dw, rfl⟩ := gw.shape
  obtain ⟨bt, ds, rfl⟩ := gs1.shape
  obtain ⟨r, hr⟩ : ∃ r, decide (a = b) = r := ⟨_, rfl⟩
  rw [hr]
  obtain ⟨n, hn⟩ : ∃ n, n = a.ws.length := ⟨_, rfl⟩
  obtain ⟨m, hm⟩ : ∃ n, n = L.length := ⟨_, rfl⟩
  obtain ⟨n2, hn2⟩ : ∃ n, n = b.ws.length := ⟨_, rfl⟩
  obtain ⟨m2, hm2⟩ : ∃ n, n = M.length := ⟨_, rfl⟩
  have hnb : n ≤ 100000 := by rw [hn]; exact hsa.1
  have hmb : m ≤ 100000 := by rw [hm]; have := hsa.2.1; rwa [← hL, List.length_map] at this
  have HR := Lib.hid hr
  have hse := fun k (h1 : k < L.length) (h2 : k < M.length) W (f : Fp Non w W) => SameEv_c L[k].ev M[k].ev L[k].s.evs M[k].s.evs W ((hs2 _ (List.getElem_mem h1)).non f) ((gs2 _ (List.getElem_mem h2)).non f) (by have := hsa.2.2 L[k].s (by rw [← hL]; exact List.mem_map_of_mem (List.getElem_mem h1)); omega) (by have := hsb.2.2 M[k].s (by rw [← hM]; exact List.mem_map_of_mem (List.getElem_mem h2)); omega)
  have HSE := Lib.hid hse
  rw [← hn] at hw ⊢
  rw [← hm] at hs1 ⊢
  rw [← hn2] at gw ⊢
  rw [← hm2] at gs1 ⊢
  have HX := Lib.hid (And.intro hn (And.intro hm (And.intro hL (And.intro hw hs1))))
  have HY := Lib.hid (And.intro hn2 (And.intro hm2 (And.intro hM (And.intro gw gs1))))
  have f0 := (fp_alloc w (.cells #[.slice aw n cw, .slice at_ m cs] TD)).then (fp_alloc _ (.cells #[.slice bw n2 dw, .slice bt m2 ds] TD))
  have r0 := (fp_alloc (w.alloc (.cells #[.slice aw n cw, .slice at_ m cs] TD)) (.cells #[.slice bw n2 dw, .slice bt m2 ds] TD)).heap (heap_alloc_new w _) (fun h => h)
  have r1 := heap_alloc_new (w.alloc (.cells #[.slice aw n cw, .slice at_ m cs] TD)) (.cells #[.slice bw n2 dw, .slice bt m2 ds] TD)
  have sz : (w.alloc (.cells #[.slice aw n cw, .slice at_ m cs] TD)).heap.size = w.heap.size + 1 := by simp
  rw [sz] at r1
  have K0 := Lib.hid (Kp.and (Kp.fp f0) (Kp.and (Kp.row r0) (Kp.row r1)))
  have hdn : n ≠ n2 → r = false := fun h => by rw [← hr]; exact decide_eq_false (fun e => h (by rw [hn, hn2, e]))
  have hdm : m ≠ m2 → r = false := fun h => by rw [← hr]; exact decide_eq_false (fun e => h (by have h1 := congrArg List.length hL; have h2 := congrArg List.length hM; rw [List.length_map] at h1 h2; rw [hm, hm2, h1, h2, e]))
  clear hv hu hw hs hs1 hs2 gw gs gs1 gs2 hn hm hL hn2 hm2 hM hr hse hsa hsb f0 r0 r1 sz
  go_enter Try.func18, Try.ntmps18
  by_cases hnn : n = n2
  · subst hnn
    by_cases hmm : m = m2
    · subst hmm
      clear hdn hdm
      have q1 : ((n : Int) != (n : Int)) = false := by simp
      have q2 : ((m : Int) != (m : Int)) = false := by simp
      go_wp2_with fail
      go_loopw [5] (fun i wr => ∃ k : Nat, k ≤ n ∧ i = .int .i64 k ∧ Hid (Kp (fun W' => Fp Non w W' ∧ W'.heap[w.heap.size]? = some (.cells #[.slice aw n cw, .slice at_ m cs] TD (0, 0)) ∧ W'.heap[w.heap.size + 1]? = some (.cells #[.slice bw n dw, .slice bt m ds] TD (0, 0))) wr ∧ ∀ j (h1 : j < a.ws.length) (h2 : j < b.ws.length), j < k → a.ws[j] = b.ws[j])) (fun i _ => n - (RowKit.intOf i).toNat)
      case atStart => exact ⟨0, Nat.zero_le _, rfl, K0.out, fun j _ _ h => absurd h (Nat.not_lt_zero j)⟩
      case round =>
        obtain ⟨k, hk, rfl, hR⟩ := hrel
        rename_i wr _
        obtain ⟨p0, p1⟩ := boxP2 hR.out.1.now.2.1
        obtain ⟨p2, p3⟩ := boxP2 hR.out.1.now.2.2
        by_cases hlt : k < n
        · have hka : k < a.ws.length := by rw [← HX.out.1]; exact hlt
          have hkb : k < b.ws.length := by rw [← HY.out.1]; exact hlt
          obtain ⟨g, o, c1, e, _, _, _, hcell⟩ := HX.out.2.2.2.1.at (by omega)
          injection e with e1 e2 e3
          subst e1 e3
          clear e2
          obtain ⟨g2, o2, c2, e, _, _, _, hcell2⟩ := HY.out.2.2.2.1.at (by omega)
          injection e with e1 e2 e3
          subst e1 e3
          clear e2
          have hx := (hcell k hka).keep hR.out.1.now.1 (fun h => h)
          have hy := (hcell2 k hkb).keep hR.out.1.now.1 (fun h => h)
          have hbad : a.ws[k] ≠ b.ws[k] → r = false := fun h => by
            rw [← HR.out]; exact decide_eq_false (fun e => h (by subst e; rfl))
          have hgood : a.ws[k] = b.ws[k] → ∀ j (h1 : j < a.ws.length) (h2 : j < b.ws.length), j < k + 1 → a.ws[j] = b.ws[j] := fun h j h1 h2 hj => by
            rcases Nat.lt_or_eq_of_le (show j ≤ k by omega) with e | e
            · exact hR.out.2 j h1 h2 e
            · subst e; exact h
          have HG := Lib.hid (And.intro hbad hgood)
          have HL := Lib.hid hlt
          clear hcell hcell2 hbad hgood
          generalize a.ws[k] = x at *
          generalize b.ws[k] = y at *
          clear hka hkb
          have heq := fun w => eq_wt w x.s x.n y.s y.n (B x.p) (B y.p) x.d y.d
          simp only [wt_eq] at heq
          have HS := Lib.hid (And.intro hx hy)
          have HWD := Lib.hid (Fp.refl Non wr).drew
          obtain ⟨xs, xn, xp, xd⟩ := x
          obtain ⟨ys, yn, yp, yd⟩ := y
          simp only at heq
          obtain ⟨q, hq⟩ : ∃ q, decide ((⟨xs, xn, xp, xd⟩ : Wt) = ⟨ys, yn, yp, yd⟩) = q := ⟨_, rfl⟩
          rw [hq] at heq
          have HQ := Lib.hid hq
          have q3 : ((k : Int) < (n : Int)) = True := eq_true (by omega)
          have q4 : (k < n) = True := eq_true hlt
          have HKD := Lib.hid (hR.out.1.later HWD.out)
          clear hx hy hlt hq
          go_wp2_with fail
          refine wp_region_held_drew (S := (fun W => W.cell? ⟨w.heap.size, 0, none⟩ = some (.slice (some ⟨g, o, none⟩) n cw) ∧ W.cell? ⟨w.heap.size + 1, 0, none⟩ = some (.slice (some ⟨g2, o2, none⟩) n dw) ∧ W.cell? ⟨g, o + k * 4, none⟩ = some (.int .i64 xs) ∧ W.cell? ⟨g, o + k * 4 + 1, none⟩ = some (.int .i64 xn) ∧ W.cell? ⟨g, o + k * 4 + 2, none⟩ = some (.string (B xp)) ∧ W.cell? ⟨g, o + k * 4 + 3, none⟩ = some (.bool xd) ∧ W.cell? ⟨g2, o2 + k * 4, none⟩ = some (.int .i64 ys) ∧ W.cell? ⟨g2, o2 + k * 4 + 1, none⟩ = some (.int .i64 yn) ∧ W.cell? ⟨g2, o2 + k * 4 + 2, none⟩ = some (.string (B yp)) ∧ W.cell? ⟨g2, o2 + k * 4 + 3, none⟩ = some (.bool yd))) (by kernel_rfl) ?_ (fun hHeld => ?_)
          · exact (And.intro (boxP2 HKD.out.now.2.1).1 (And.intro (boxP2 HKD.out.now.2.2).1 (And.intro (HS.out.1.keep HWD.out (fun h => h)).c0 (And.intro (HS.out.1.keep HWD.out (fun h => h)).c1 (And.intro (HS.out.1.keep HWD.out (fun h => h)).c2 (And.intro (HS.out.1.keep HWD.out (fun h => h)).c3 (And.intro (HS.out.2.keep HWD.out (fun h => h)).c0 (And.intro (HS.out.2.keep HWD.out (fun h => h)).c1 (And.intro (HS.out.2.keep HWD.out (fun h => h)).c2 (HS.out.2.keep HWD.out (fun h => h)).c3)))))))))
          refine tk 0 hHeld ?_
          refine tk 1 hHeld ?_
          refine tk 2 hHeld ?_
          refine tk 3 hHeld ?_
          refine tk 4 hHeld ?_
          refine tk 5 hHeld ?_
          refine tk 6 hHeld ?_
          refine tk 7 hHeld ?_
          refine tk 8 hHeld ?_
          refine tk 9 hHeld ?_
          refine tk 10 hHeld ?_
          refine yD ?_
          cases q with
          | false =>
            obtain rfl := HG.out.1 (of_decide_eq_false HQ.out)
            go_wp2
            go_ret
            exact ⟨rfl, HKD.out.now.1⟩
          | true =>
            have hM : Hid (Kp (fun W' => Fp Non w W' ∧ W'.heap[w.heap.size]? = some (.cells #[.slice (some ⟨g, o, none⟩) n cw, .slice at_ m cs] TD (0, 0)) ∧ W'.heap[w.heap.size + 1]? = some (.cells #[.slice (some ⟨g2, o2, none⟩) n dw, .slice bt m ds] TD (0, 0))) wr.drew ∧ ∀ j (h1 : j < a.ws.length) (h2 : j < b.ws.length), j < k + 1 → a.ws[j] = b.ws[j]) := ⟨HKD.out, HG.out.2 (of_decide_eq_true HQ.out)⟩
            have hkn := HL.out
            clear HG
            go_wp2
            go_roundw
            case rel => exact ⟨k + 1, by omega, by go_num, hM⟩
            case measure => simp [RowKit.intOf]; omega
        · have hke : k = n := by omega
          subst hke
          have q3 : ((k : Int) < (k : Int)) = False := eq_false (by omega)
          have hws : a.ws = b.ws := list_eq (by rw [← HX.out.1, ← HY.out.1]) (fun j h1 h2 => hR.out.2 j h1 h2 (by rw [HX.out.1]; exact h1))
          have HWS := Lib.hid hws
          have K2 := Lib.hid hR.out.1
          clear hlt hk hws hR
          go_wp2_with fail
          clear p0 p1 p2 p3
          go_loopw [6] (fun i wr => ∃ j : Nat, j ≤ m ∧ i = .int .i64 j ∧ Hid (Kp (fun W' => Fp Non w W' ∧ W'.heap[w.heap.size]? = some (.cells #[.slice aw k cw, .slice at_ m cs] TD (0, 0)) ∧ W'.heap[w.heap.size + 1]? = some (.cells #[.slice bw k dw, .slice bt m ds] TD (0, 0))) wr ∧ ∀ i (h1 : i < L.length) (h2 : i < M.length), i < j → L[i].s = M[i].s)) (fun i _ => m - (RowKit.intOf i).toNat)
          case atStart => exact ⟨0, Nat.zero_le _, rfl, K2.out, fun j _ _ h => absurd h (Nat.not_lt_zero j)⟩
          case round =>
            clear K2
            obtain ⟨j, hj, rfl, hR⟩ := hrel
            rename_i wr _
            obtain ⟨p0, p1⟩ := boxP2 hR.out.1.now.2.1
            obtain ⟨p2, p3⟩ := boxP2 hR.out.1.now.2.2
            by_cases hlt : j < m
            · have hja : j < L.length := by rw [← HX.out.2.1]; exact hlt
              have hjb : j < M.length := by rw [← HY.out.2.1]; exact hlt
              obtain ⟨g, o, c1, e, _, _, _, hcell⟩ := HX.out.2.2.2.2.at (by omega)
              injection e with e1 e2 e3
              subst e1 e3
              clear e2
              obtain ⟨g2, o2, c2, e, _, _, _, hcell2⟩ := HY.out.2.2.2.2.at (by omega)
              injection e with e1 e2 e3
              subst e1 e3
              clear e2
              have hx := (hcell j hja).keep hR.out.1.now.1 (fun h => h)
              have hy := (hcell2 j hjb).keep hR.out.1.now.1 (fun h => h)
              have hbad : L[j].s ≠ M[j].s → r = false := fun h => by
                rw [← HR.out]
                refine decide_eq_false (fun e => h ?_)
                have h1 : (L.map Sv.s)[j]? = (M.map Sv.s)[j]? := by rw [HX.out.2.2.1, HY.out.2.2.1, e]
                rw [List.getElem?_map, List.getElem?_map, List.getElem?_eq_getElem hja, List.getElem?_eq_getElem hjb] at h1
                simpa using h1
              have hgood : L[j].s = M[j].s → ∀ i (h1 : i < L.length) (h2 : i < M.length), i < j + 1 → L[i].s = M[i].s := fun h i h1 h2 hi => by
                rcases Nat.lt_or_eq_of_le (show i ≤ j by omega) with e | e
                · exact hR.out.2 i h1 h2 e
                · subst e; exact h
              have hsec := fun W (f : Fp Non wr W) => HSE.out j hja hjb W (hR.out.1.now.1.then f)
              have HG := Lib.hid (And.intro hbad hgood)
              have HL := Lib.hid hlt
              clear hcell hcell2 hbad hgood
              generalize L[j] = x at *
              generalize M[j] = y at *
              clear hja hjb
              have HS := Lib.hid (And.intro hx hy)
              have HWD := Lib.hid (Fp.refl Non wr).drew
              have HKD := Lib.hid (hR.out.1.later HWD.out)
              obtain ⟨⟨xs, xn, xe⟩, xa, xc⟩ := x
              obtain ⟨⟨ys, yn, ye⟩, ya, yc⟩ := y
              unfold Sv.ev at hsec
              simp only at hsec
              obtain ⟨xl, hxl⟩ : ∃ n, n = xe.length := ⟨_, rfl⟩
              obtain ⟨yl, hyl⟩ : ∃ n, n = ye.length := ⟨_, rfl⟩
              rw [← hxl, ← hyl] at hsec
              obtain ⟨q, hq⟩ : ∃ q, decide (xe = ye) = q := ⟨_, rfl⟩
              rw [hq] at hsec
              have HSEC := Lib.hid hsec
              have HQ := Lib.hid hq
              have HC2 := Lib.hid (show ∀ W, Fp Non wr W → W.cell? ⟨g, o + j * 3 + 2, none⟩ = some (.slice xa xl xc) ∧ W.cell? ⟨g2, o2 + j * 3 + 2, none⟩ = some (.slice ya yl yc) from fun W f => by
                have h1 := (HS.out.1.keep f (fun h => h)).c2
                have h2 := (HS.out.2.keep f (fun h => h)).c2
                unfold Sv.ev at h1 h2
                rw [hxl, hyl]
                exact ⟨h1, h2⟩)
              have q3 : ((j : Int) < (m : Int)) = True := eq_true (by omega)
              have q4 : (j < m) = True := eq_true hlt
              clear hx hy hlt hq hsec hxl hyl
              by_cases h1 : xs = ys
              · subst h1
                have t1 : (xs != xs) = false := by simp
                by_cases h2 : xn = yn
                · subst h2
                  have t2 : (xn != xn) = false := by simp
                  go_wp2_with fail
                  refine wp_region_held_drew (S := (fun W => W.cell? ⟨w.heap.size, 1, none⟩ = some (.slice (some ⟨g, o, none⟩) m cs) ∧ W.cell? ⟨w.heap.size + 1, 1, none⟩ = some (.slice (some ⟨g2, o2, none⟩) m ds) ∧ W.cell? ⟨g, o + j * 3, none⟩ = some (.int .i64 xs) ∧ W.cell? ⟨g, o + j * 3 + 1, none⟩ = some (.int .i64 xn) ∧ W.cell? ⟨g, o + j * 3 + 2, none⟩ = some (.slice xa xl xc) ∧ W.cell? ⟨g2, o2 + j * 3, none⟩ = some (.int .i64 xs) ∧ W.cell? ⟨g2, o2 + j * 3 + 1, none⟩ = some (.int .i64 xn) ∧ W.cell? ⟨g2, o2 + j * 3 + 2, none⟩ = some (.slice ya yl yc))) (by kernel_rfl) ?_ (fun hHeld => ?_)
                  · exact (And.intro (boxP2 (hR.out.1 _ (HWD.out)).2.1).2 (And.intro (boxP2 (hR.out.1 _ (HWD.out)).2.2).2 (And.intro (HS.out.1.keep (HWD.out) (fun h => h)).c0 (And.intro (HS.out.1.keep (HWD.out) (fun h => h)).c1 (And.intro (HC2.out _ (HWD.out)).1 (And.intro (HS.out.2.keep (HWD.out) (fun h => h)).c0 (And.intro (HS.out.2.keep (HWD.out) (fun h => h)).c1 (HC2.out _ (HWD.out)).2)))))))
                  refine tk 0 hHeld ?_
                  refine tk 1 hHeld ?_
                  refine tk 2 hHeld ?_
                  refine tk 3 hHeld ?_
                  refine tk 4 hHeld ?_
                  refine tk 5 hHeld ?_
                  refine tk 6 hHeld ?_
                  refine tk 7 hHeld ?_
                  refine tk 8 hHeld ?_
                  refine tk 9 hHeld ?_
                  refine tk 10 hHeld ?_
                  refine tk 11 hHeld ?_
                  refine tk 12 hHeld ?_
                  refine tk 13 hHeld ?_
                  refine tk 14 hHeld ?_
                  refine tk 15 hHeld ?_
                  refine tk 16 hHeld ?_
                  refine tk 17 hHeld ?_
                  refine tk 18 hHeld ?_
                  refine tk 19 hHeld ?_
                  refine tk 20 hHeld ?_
                  refine tk 21 hHeld ?_
                  refine tk 22 hHeld ?_
                  refine tk 23 hHeld ?_
                  refine tk 24 hHeld ?_
                  refine tk 25 hHeld ?_
                  refine tk 26 hHeld ?_
                  refine tk 27 hHeld ?_
                  refine tk 28 hHeld ?_
                  refine tk 29 hHeld ?_
                  refine tk 30 hHeld ?_
                  refine tk 31 hHeld ?_
                  refine tk 32 hHeld ?_
                  refine tk 33 hHeld ?_
                  refine tk 34 hHeld ?_
                  refine tk 35 hHeld ?_
                  refine tk 36 hHeld ?_
                  refine tk 37 hHeld ?_
                  refine tk 38 hHeld ?_
                  refine tk 39 hHeld ?_
                  refine tk 40 hHeld ?_
                  refine rY 41 (fun K hK => ?_)
                  go_simp
                  refine (HSEC.out _ HWD.out).mono ?_
                  rintro e w5 ⟨rfl, hf⟩
                  have F5 := Lib.hid (HWD.out.then hf)
                  clear hf
                  go_wp2_with fail
                  refine hK.out _ _ ((And.intro (boxP2 (hR.out.1 _ (F5.out)).2.1).2 (And.intro (boxP2 (hR.out.1 _ (F5.out)).2.2).2 (And.intro (HS.out.1.keep (F5.out) (fun h => h)).c0 (And.intro (HS.out.1.keep (F5.out) (fun h => h)).c1 (And.intro (HC2.out _ (F5.out)).1 (And.intro (HS.out.2.keep (F5.out) (fun h => h)).c0 (And.intro (HS.out.2.keep (F5.out) (fun h => h)).c1 (HC2.out _ (F5.out)).2)))))))) (fun hHeld => ?_)
                  clear hK K
                  try simp only [zP, zN, zS, zT, zU]
                  refine tk 42 hHeld ?_
                  refine tk 43 hHeld ?_
                  refine yD ?_
                  cases q with
                  | false =>
                    obtain rfl := HG.out.1 (fun e => by injection e with _ _ e; exact (of_decide_eq_false HQ.out) e)
                    go_wp2
                    go_ret
                    exact ⟨rfl, (hR.out.1 _ F5.out).1⟩
                  | true =>
                    have hM : Hid (Kp (fun W' => Fp Non w W' ∧ W'.heap[w.heap.size]? = some (.cells #[.slice aw k cw, .slice (some ⟨g, o, none⟩) m cs] TD (0, 0)) ∧ W'.heap[w.heap.size + 1]? = some (.cells #[.slice bw k dw, .slice (some ⟨g2, o2, none⟩) m ds] TD (0, 0))) w5 ∧ ∀ i (h1 : i < L.length) (h2 : i < M.length), i < j + 1 → L[i].s = M[i].s) := ⟨hR.out.1.later F5.out, HG.out.2 (by rw [of_decide_eq_true HQ.out])⟩
                    have hkn := HL.out
                    clear HG
                    go_wp2
                    go_roundw
                    case rel => exact ⟨j + 1, by omega, by go_num, hM⟩
                    case measure => simp [RowKit.intOf]; omega
                · have t2 : (xn != yn) = true := by simpa using h2
                  go_wp2_with fail
                  refine wp_region_held_drew (S := (fun W => W.cell? ⟨w.heap.size, 1, none⟩ = some (.slice (some ⟨g, o, none⟩) m cs) ∧ W.cell? ⟨w.heap.size + 1, 1, none⟩ = some (.slice (some ⟨g2, o2, none⟩) m ds) ∧ W.cell? ⟨g, o + j * 3, none⟩ = some (.int .i64 xs) ∧ W.cell? ⟨g, o + j * 3 + 1, none⟩ = some (.int .i64 xn) ∧ W.cell? ⟨g, o + j * 3 + 2, none⟩ = some (.slice xa xl xc) ∧ W.cell? ⟨g2, o2 + j * 3, none⟩ = some (.int .i64 xs) ∧ W.cell? ⟨g2, o2 + j * 3 + 1, none⟩ = some (.int .i64 yn) ∧ W.cell? ⟨g2, o2 + j * 3 + 2, none⟩ = some (.slice ya yl yc))) (by kernel_rfl) ?_ (fun hHeld => ?_)
                  · exact (And.intro (boxP2 (hR.out.1 _ (HWD.out)).2.1).2 (And.intro (boxP2 (hR.out.1 _ (HWD.out)).2.2).2 (And.intro (HS.out.1.keep (HWD.out) (fun h => h)).c0 (And.intro (HS.out.1.keep (HWD.out) (fun h => h)).c1 (And.intro (HC2.out _ (HWD.out)).1 (And.intro (HS.out.2.keep (HWD.out) (fun h => h)).c0 (And.intro (HS.out.2.keep (HWD.out) (fun h => h)).c1 (HC2.out _ (HWD.out)).2)))))))
                  refine tk 0 hHeld ?_
                  refine tk 1 hHeld ?_
                  refine tk 2 hHeld ?_
                  refine tk 3 hHeld ?_
                  refine tk 4 hHeld ?_
                  refine tk 5 hHeld ?_
                  refine tk 6 hHeld ?_
                  refine tk 7 hHeld ?_
                  refine tk 8 hHeld ?_
                  refine tk 9 hHeld ?_
                  refine tk 10 hHeld ?_
                  refine tk 11 hHeld ?_
                  refine tk 12 hHeld ?_
                  refine tk 13 hHeld ?_
                  refine tk 14 hHeld ?_
                  refine tk 15 hHeld ?_
                  refine tk 16 hHeld ?_
                  refine tk 17 hHeld ?_
                  refine tk 18 hHeld ?_
                  refine tk 19 hHeld ?_
                  refine tk 20 hHeld ?_
                  refine tk 21 hHeld ?_
                  refine tk 22 hHeld ?_
                  refine tk 23 hHeld ?_
                  refine tk 24 hHeld ?_
                  refine tk 25 hHeld ?_
                  refine tk 26 hHeld ?_
                  refine tk 27 hHeld ?_
                  refine tk 28 hHeld ?_
                  refine sk 29 hHeld ?_
                  refine sk 30 hHeld ?_
                  refine sk 31 hHeld ?_
                  refine sk 32 hHeld ?_
                  refine sk 33 hHeld ?_
                  refine sk 34 hHeld ?_
                  refine sk 35 hHeld ?_
                  refine sk 36 hHeld ?_
                  refine sk 37 hHeld ?_
                  refine sk 38 hHeld ?_
                  refine sk 39 hHeld ?_
                  refine sk 40 hHeld ?_
                  refine sk 41 hHeld ?_
                  refine sk 42 hHeld ?_
                  refine tk 43 hHeld ?_
                  refine yD ?_
                  obtain rfl := HG.out.1 (fun e => by injection e; first | contradiction | omega)
                  go_wp2
                  go_ret
                  exact ⟨rfl, HKD.out.now.1⟩
              · have t1 : (xs != ys) = true := by simpa using h1
                go_wp2_with fail
                refine wp_region_held_drew (S := (fun W => W.cell? ⟨w.heap.size, 1, none⟩ = some (.slice (some ⟨g, o, none⟩) m cs) ∧ W.cell? ⟨w.heap.size + 1, 1, none⟩ = some (.slice (some ⟨g2, o2, none⟩) m ds) ∧ W.cell? ⟨g, o + j * 3, none⟩ = some (.int .i64 xs) ∧ W.cell? ⟨g, o + j * 3 + 1, none⟩ = some (.int .i64 xn) ∧ W.cell? ⟨g, o + j * 3 + 2, none⟩ = some (.slice xa xl xc) ∧ W.cell? ⟨g2, o2 + j * 3, none⟩ = some (.int .i64 ys) ∧ W.cell? ⟨g2, o2 + j * 3 + 1, none⟩ = some (.int .i64 yn) ∧ W.cell? ⟨g2, o2 + j * 3 + 2, none⟩ = some (.slice ya yl yc))) (by kernel_rfl) ?_ (fun hHeld => ?_)
                · exact (And.intro (boxP2 (hR.out.1 _ (HWD.out)).2.1).2 (And.intro (boxP2 (hR.out.1 _ (HWD.out)).2.2).2 (And.intro (HS.out.1.keep (HWD.out) (fun h => h)).c0 (And.intro (HS.out.1.keep (HWD.out) (fun h => h)).c1 (And.intro (HC2.out _ (HWD.out)).1 (And.intro (HS.out.2.keep (HWD.out) (fun h => h)).c0 (And.intro (HS.out.2.keep (HWD.out) (fun h => h)).c1 (HC2.out _ (HWD.out)).2)))))))
                refine tk 0 hHeld ?_
                refine tk 1 hHeld ?_
                refine tk 2 hHeld ?_
                refine tk 3 hHeld ?_
                refine tk 4 hHeld ?_
                refine tk 5 hHeld ?_
                refine tk 6 hHeld ?_
                refine tk 7 hHeld ?_
                refine tk 8 hHeld ?_
                refine tk 9 hHeld ?_
                refine tk 10 hHeld ?_
                refine tk 11 hHeld ?_
                refine tk 12 hHeld ?_
                refine tk 13 hHeld ?_
                refine sk 14 hHeld ?_
                refine sk 15 hHeld ?_
                refine sk 16 hHeld ?_
                refine sk 17 hHeld ?_
                refine sk 18 hHeld ?_
                refine sk 19 hHeld ?_
                refine sk 20 hHeld ?_
                refine sk 21 hHeld ?_
                refine sk 22 hHeld ?_
                refine sk 23 hHeld ?_
                refine sk 24 hHeld ?_
                refine sk 25 hHeld ?_
                refine sk 26 hHeld ?_
                refine tk 27 hHeld ?_
                refine tk 28 hHeld ?_
                refine sk 29 hHeld ?_
                refine sk 30 hHeld ?_
                refine sk 31 hHeld ?_
                refine sk 32 hHeld ?_
                refine sk 33 hHeld ?_
                refine sk 34 hHeld ?_
                refine sk 35 hHeld ?_
                refine sk 36 hHeld ?_
                refine sk 37 hHeld ?_
                refine sk 38 hHeld ?_
                refine sk 39 hHeld ?_
                refine sk 40 hHeld ?_
                refine sk 41 hHeld ?_
                refine sk 42 hHeld ?_
                refine tk 43 hHeld ?_
                refine yD ?_
                obtain rfl := HG.out.1 (fun e => by injection e; first | contradiction | omega)
                go_wp2
                go_ret
                exact ⟨rfl, HKD.out.now.1⟩
            · have hje : j = m := by omega
              subst hje
              have q3 : ((j : Int) < (j : Int)) = False := eq_false (by omega)
              have hrt : r = true := by
                rw [← HR.out]
                refine decide_eq_true (Wd.ext2 HWS.out ?_)
                rw [← HX.out.2.2.1, ← HY.out.2.2.1]
                refine list_eq (by rw [List.length_map, List.length_map, ← HX.out.2.1, ← HY.out.2.1]) (fun i h1 h2 => ?_)
                rw [List.getElem_map, List.getElem_map]
                rw [List.length_map] at h1 h2
                exact hR.out.2 i h1 h2 (by rw [HX.out.2.1]; exact h1)
              subst hrt
              clear hlt hj
              go_wp2
              go_ret
              exact ⟨rfl, hR.out.1.now.1⟩
    · obtain rfl := hdm hmm
      have q1 : ((n : Int) != (n : Int)) = false := by simp
      have q2 : ((m : Int) != (m2 : Int)) = true := by simp; omega
      obtain ⟨p0, p1⟩ := boxP2 K0.out.now.2.1
      obtain ⟨p2, p3⟩ := boxP2 K0.out.now.2.2
      clear hdn hdm
      go_wp2
      go_ret
      exact ⟨rfl, K0.out.now.1⟩
  · obtain rfl := hdn hnn
    have q1 : ((n : Int) != (n2 : Int)) = true := by simp; omega
    obtain ⟨p0, p1⟩ := boxP2 K0.out.now.2.1
    obtain ⟨p2, p3⟩ := boxP2 K0.out.now.2.2
    clear hdn hdm
    go_wp2
    go_ret
    exact ⟨rfl, K0.out.now.1⟩
end Go.Proofs.Ytjdpbieifcjmiaa
