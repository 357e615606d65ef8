/- watch.Right (gen_yg.py) -/
import Derived.Test.YtjdpbieifcjmiaaYd
import Derived.Test.YtjdpbieifcjmiaaYz
namespace Go.Proofs.Ytjdpbieifcjmiaa
set_option maxRecDepth 20000
set_option linter.unusedVariables false
set_option linter.unusedSimpArgs false
open Go.RowKit Pm


set_option maxHeartbeats 8000000 in
theorem Right_w (v : Value) (d : Wd) (w : World) (hv : WdR w v d) (hz : SzD d) :
    Calls Try.prog 7 #[v] w fun e w' => e = .returned (.bool (rightW d)) ∧ Fp Non w w' := by
  obtain ⟨vw, vs, rfl, hw, hs⟩ := hv.ex
  obtain ⟨aw, cw, rfl⟩ := hw.shape
  obtain ⟨at_, cs, rfl⟩ := hs.shape
  clear hv
  have hnb := hz.w
  have hmb := hz.s
  obtain ⟨br, hbr⟩ : ∃ b, rightW d = b := ⟨_, rfl⟩
  rw [hbr]
  have hri : br = true ↔ d.ws.length ≤ 64 ∧ (∀ i, i < d.ws.length → okWt d.ws i = true) ∧ ∀ i, i < d.ss.length → okSe d.ss i = true := by
    rw [← hbr]; unfold rightW; exact decide_eq_true_iff
  obtain ⟨n, hn⟩ : ∃ n, n = d.ws.length := ⟨_, rfl⟩
  obtain ⟨m, hm⟩ : ∃ n, n = d.ss.length := ⟨_, rfl⟩
  have HN := Lib.hid (And.intro hn hm)
  rw [← hn] at hw hnb ⊢
  rw [← hm] at hs hmb ⊢
  have HR := Lib.hid hri
  have HX := Lib.hid (And.intro hw (And.intro hs hz))
  have hf0 := fp_alloc w (.cells #[.slice aw n cw, .slice at_ m cs] TD)
  have r0 := heap_alloc_new w (.cells #[.slice aw n cw, .slice at_ m cs] TD)
  have K0 := Lib.hid (Kp.and (Kp.fp hf0) (Kp.row r0))
  clear hw hs hz hn hm hf0 r0 hbr hri
  go_enter Try.func7, Try.ntmps7
  by_cases h64 : n ≤ 64
  · have t1 : ((64 : Int) < (n : Int)) = False := eq_false (by omega)
    go_wp2_with fail
    go_loopw [14] (fun i wr => ∃ k : Nat, k ≤ n ∧ i = .int .i64 k ∧ Hid (Kp (fun W' => Fp Non w W' ∧ W'.heap[w.heap.size]? = some (.cells #[.slice aw n cw, .slice at_ m cs] TD (0, 0))) wr ∧ ∀ j, j < d.ws.length → j < k → okWt d.ws j = true)) (fun i _ => n - (RowKit.intOf i).toNat)
    case atStart => exact ⟨0, Nat.zero_le _, rfl, K0.out, fun j _ h => absurd h (Nat.not_lt_zero j)⟩
    case round =>
      obtain ⟨k, hk, rfl, hR⟩ := hrel
      rename_i wr _
      by_cases hlt : k < n
      · have hkl : k < d.ws.length := by rw [← HN.out.1]; exact hlt
        obtain ⟨g, o, cap', e, hc1, hc2, hgl, hcell⟩ := HX.out.1.at (by omega)
        injection e with e1 e2 e3
        subst e1 e3
        clear e2
        have hnd := (hcell k hkl).keep hR.out.1.now.1 (fun h => h)
        have htake := HX.out.1.take k cw (by omega) (by omega) hc2 hgl
        have hok : okWt d.ws k = (rWt d.ws[k] && !(d.ws.take k).any (hit d.ws[k].s d.ws[k].n)) := by unfold okWt; rw [dif_pos hkl]
        have hpl := HX.out.2.2.wp _ (List.getElem_mem hkl)
        have hbad : okWt d.ws k = false → br = false := fun h => by
          cases br with
          | false => rfl
          | true => have := (HR.out.1 rfl).2.1 k hkl; rw [h] at this; cases this
        have hgood : okWt d.ws k = true → ∀ j, j < d.ws.length → j < k + 1 → okWt d.ws j = true := fun h j hj hjk => by
          rcases Nat.lt_or_eq_of_le (show j ≤ k by omega) with e | e
          · exact hR.out.2 j hj e
          · subst e; exact h
        rw [hok] at hbad hgood
        have hrw := fun w => rightWatch_c d.ws[k] w hpl
        clear hcell hok
        generalize d.ws[k] = x at *
        obtain ⟨xs, xn, xp, xd⟩ := x
        have c0 := hnd.c0; have c1 := hnd.c1; have c2 := hnd.c2; have c3 := hnd.c3
        unfold wtV strV at hrw
        unfold strV at c2
        simp only at c0 c1 c2 c3 hbad hgood hrw
        obtain ⟨b1, hb1⟩ : ∃ b, rWt ⟨xs, xn, xp, xd⟩ = b := ⟨_, rfl⟩
        rw [hb1] at hrw hbad hgood
        have hsp : WSp (d.ws.take k) := fun y hy => HX.out.2.2.wp y (List.take_subset _ _ hy)
        have hcon := fun W (f : Fp Non w W) (q : Wt → Bool) (fv : Value) (hq : PdW Non W fv q) => ContainsW_c _ fv _ q W (htake.non f) hsp hq (by rw [List.length_take]; omega)
        obtain ⟨b2, hb2⟩ : ∃ b, (d.ws.take k).any (hit xs xn) = b := ⟨_, rfl⟩
        rw [hb2] at hbad hgood
        have HCO := Lib.hid (And.intro hcon hb2)
        have HRW := Lib.hid hrw
        have HG := Lib.hid (And.intro hbad hgood)
        have HL := Lib.hid (And.intro hkl hlt)
        have K1 := Lib.hid (Kp.and (Kp.row (heap_alloc_new wr (.cells #[.int .i64 xs, .int .i64 xn, .string (B xp), .bool xd] TW))) (hR.out.1.later (fp_alloc wr (.cells #[.int .i64 xs, .int .i64 xn, .string (B xp), .bool xd] TW))))
        have HD := Lib.hid (fun W (f : Fp Non (wr.alloc (.cells #[.int .i64 xs, .int .i64 xn, .string (B xp), .bool xd] TW)) W) => And.intro (boxP4 (K1.out W f).1).1 (And.intro (boxP4 (K1.out W f).1).2.1 (And.intro (boxP4 (K1.out W f).1).2.2.1 (And.intro (boxP4 (K1.out W f).1).2.2.2 (boxP2 (K1.out W f).2.2).1))))
        have q5 : ((k : Int) < (n : Int)) = True := eq_true (by omega)
        have q6 : (k < n) = True := eq_true hlt
        have q7 : (k ≤ cw) = True := eq_true (by omega)
        have q8 : ((k : Int) ≤ (cw : Int)) = True := eq_true (by omega)
        have hfd := (Fp.refl Non (wr.alloc (.cells #[.int .i64 xs, .int .i64 xn, .string (B xp), .bool xd] TW))).drew
        have HFD := Lib.hid hfd
        clear hnd hkl hlt hpl hbad hgood hrw hb1 hb2 hsp hcon htake hc1 hfd
        go_wp2_with fail
        refine wp_region_held_drew (S := (fun W => W.cell? ⟨wr.heap.size, 0, none⟩ = some (.int .i64 xs) ∧ W.cell? ⟨wr.heap.size, 1, none⟩ = some (.int .i64 xn) ∧ W.cell? ⟨wr.heap.size, 2, none⟩ = some (.string (B xp)) ∧ W.cell? ⟨wr.heap.size, 3, none⟩ = some (.bool xd) ∧ W.cell? ⟨w.heap.size, 0, none⟩ = some (.slice (some ⟨g, o, none⟩) n cw))) (by kernel_rfl) ?_ (fun hHeld => ?_)
        · exact HD.out _ HFD.out
        refine tk 0 hHeld ?_
        refine rY 1 (fun K hK => ?_)
        go_simp
        refine (HRW.out _).mono ?_
        rintro e w2 ⟨rfl, hf⟩
        have F2 := Lib.hid (HFD.out.then hf)
        clear hf
        go_wp2_with fail
        refine hK.out _ _ (HD.out _ F2.out) (fun hHeld => ?_)
        clear hK K
        try simp only [zP, zN, zS, zT, zU]
        cases b1 with
        | false =>
          refine tk 2 hHeld ?_
          refine tk 3 hHeld ?_
          refine sk 4 hHeld ?_
          refine sk 5 hHeld ?_
          refine sk 6 hHeld ?_
          refine sk 7 hHeld ?_
          refine sk 8 hHeld ?_
          refine sk 9 hHeld ?_
          refine sk 10 hHeld ?_
          refine sk 11 hHeld ?_
          refine sk 12 hHeld ?_
          refine sk 13 hHeld ?_
          refine tk 14 hHeld ?_
          refine yD ?_
          obtain rfl := HG.out.1 (by simp)
          go_wp2
          go_ret
          exact ⟨rfl, (K1.out _ F2.out).2.1⟩
        | true =>
          refine tk 2 hHeld ?_
          refine tk 3 hHeld ?_
          refine tk 4 hHeld ?_
          refine tk 5 hHeld ?_
          refine tk 6 hHeld ?_
          refine tk 7 hHeld ?_
          refine tk 8 hHeld ?_
          refine tk 9 hHeld ?_
          refine tk 10 hHeld ?_
          refine tk 11 hHeld ?_
          refine rY 12 (fun K hK => ?_)
          go_simp
          refine (numbered_c xs xn _).mono ?_
          rintro e w3 hN
          obtain ⟨h1, h2, rfl, hh1, hh2, hh3, hh4⟩ := hN.ex
          have F3 := Lib.hid (F2.out.then hN.fp)
          have HP := Lib.hid (hit_pd w3 h1 h2 xs xn hh3 hh4 Non (fun h => h) (fun h => h))
          clear hN hh1 hh2 hh3 hh4
          go_wp2_with fail
          refine hK.out _ _ (HD.out _ F3.out) (fun hHeld => ?_)
          clear hK K
          try simp only [zP, zN, zS, zT, zU]
          refine rY 13 (fun K hK => ?_)
          go_simp
          refine (HCO.out.1 _ (K1.out _ F3.out).2.1 _ _ HP.out).mono ?_
          rintro e w4 ⟨rfl, hf⟩
          have F4 := Lib.hid (F3.out.then hf)
          rw [HCO.out.2]
          clear hf
          go_wp2_with fail
          refine hK.out _ _ (HD.out _ F4.out) (fun hHeld => ?_)
          clear hK K
          try simp only [zP, zN, zS, zT, zU]
          refine tk 14 hHeld ?_
          refine yD ?_
          cases b2 with
          | true =>
            obtain rfl := HG.out.1 (by simp)
            go_wp2
            go_ret
            exact ⟨rfl, (K1.out _ F4.out).2.1⟩
          | false =>
            have hM : Hid (Kp (fun W' => Fp Non w W' ∧ W'.heap[w.heap.size]? = some (.cells #[.slice (some ⟨g, o, none⟩) n cw, .slice at_ m cs] TD (0, 0))) w4 ∧ ∀ j, j < d.ws.length → j < k + 1 → okWt d.ws j = true) := ⟨fun W f => (K1.out W (F4.out.then f)).2, HG.out.2 rfl⟩
            have hkn := HL.out.2
            clear HG
            go_wp2
            go_roundw
            case rel => exact ⟨k + 1, by omega, by go_num, hM⟩
            case measure => simp [RowKit.intOf]; omega
      · have hke : k = n := by omega
        subst hke
        have q5 : ((k : Int) < (k : Int)) = False := eq_false (by omega)
        obtain ⟨p0, p1⟩ := boxP2 hR.out.1.now.2
        have HA := Lib.hid (show ∀ i, i < d.ws.length → okWt d.ws i = true from fun i hi => hR.out.2 i hi (by rw [HN.out.1]; exact hi))
        clear hlt hk
        go_wp2_with fail
        obtain ⟨L, hL, hv, he⟩ := HX.out.2.1.ex
        have hLm : L.length = m := by rw [HN.out.2, ← hL, List.length_map]
        have HLL := Lib.hid (And.intro hL (And.intro hLm (And.intro hv he)))
        have K2 := Lib.hid hR.out.1
        clear hL hLm hv he hR p0 p1
        go_loopw [38] (fun i wr => ∃ j : Nat, j ≤ m ∧ i = .int .i64 j ∧ Hid (Kp (fun W' => Fp Non w W' ∧ W'.heap[w.heap.size]? = some (.cells #[.slice aw k cw, .slice at_ m cs] TD (0, 0))) wr ∧ ∀ i, i < d.ss.length → i < j → okSe d.ss i = true)) (fun i _ => m - (RowKit.intOf i).toNat)
        case atStart => exact ⟨0, Nat.zero_le _, rfl, K2.out, fun j _ h => absurd h (Nat.not_lt_zero j)⟩
        case round =>
          clear K2
          obtain ⟨j, hj, rfl, hR⟩ := hrel
          rename_i wr _
          by_cases hlt : j < m
          · have hjL : j < L.length := by rw [HLL.out.2.1]; exact hlt
            have hjs : j < d.ss.length := by rw [← HN.out.2]; exact hlt
            have hel : d.ss[j] = L[j].s := by simp only [← HLL.out.1, List.getElem_map]
            obtain ⟨g, o, cap', e, hc1, hc2, hgl, hcell⟩ := HLL.out.2.2.1.at (by omega)
            injection e with e1 e2 e3
            subst e1 e3
            clear e2
            have hnd := (hcell j hjL).keep hR.out.1.now.1 (fun h => h)
            have hev := HLL.out.2.2.2 _ (List.getElem_mem hjL)
            have hsz := HX.out.2.2.sp d.ss[j] (List.getElem_mem hjs)
            rw [hel] at hsz
            have hok : okSe d.ss j = (rSe d.ss[j] && (if h0 : 0 < j then decide (d.ss[j-1].num < d.ss[j].num) else true)) := by unfold okSe; rw [dif_pos hjs]
            rw [hel] at hok
            obtain ⟨pb, hpb⟩ : ∃ b, (if h0 : 0 < j then decide ((d.ss[j-1]'(by omega)).num < L[j].s.num) else true) = b := ⟨_, rfl⟩
            rw [hpb] at hok
            have hbad : okSe d.ss j = false → br = false := fun h => by
              cases br with
              | false => rfl
              | true => have := (HR.out.1 rfl).2.2 j hjs; rw [h] at this; cases this
            have hgood : okSe d.ss j = true → ∀ i, i < d.ss.length → i < j + 1 → okSe d.ss i = true := fun h i hi hik => by
              rcases Nat.lt_or_eq_of_le (show i ≤ j by omega) with e | e
              · exact hR.out.2 i hi e
              · subst e; exact h
            rw [hok] at hbad hgood
            have hrw := fun W (f : Fp Non w W) => rightSession_c L[j] W (hev.non f) hsz.1 hsz.2
            have HL := Lib.hid (And.intro hjL (And.intro hlt hjs))
            have HCE := Lib.hid hcell
            clear hok hev hsz
            generalize L[j] = x at *
            obtain ⟨⟨xs, xn, xe⟩, xa, xc⟩ := x
            have c0 := hnd.c0; have c1 := hnd.c1; have c2 := hnd.c2
            unfold Sv.ev at c2
            unfold svV Sv.ev at hrw
            simp only at c0 c1 c2 hbad hgood hrw
            obtain ⟨xl, hxl⟩ : ∃ n, n = xe.length := ⟨_, rfl⟩
            rw [← hxl] at c2 hrw
            obtain ⟨b1, hb1⟩ : ∃ b, rSe ⟨xs, xn, xe⟩ = b := ⟨_, rfl⟩
            rw [hb1] at hrw hbad hgood
            have HRW := Lib.hid hrw
            have HG := Lib.hid (And.intro hbad hgood)
            have K1 := Lib.hid (Kp.and (Kp.row (heap_alloc_new wr (.cells #[.int .i64 xs, .int .i64 xn, .slice xa xl xc] TV))) (hR.out.1.later (fp_alloc wr (.cells #[.int .i64 xs, .int .i64 xn, .slice xa xl xc] TV))))
            have q5 : ((j : Int) < (m : Int)) = True := eq_true (by omega)
            have q6 : (j < m) = True := eq_true hlt
            have hfd := (Fp.refl Non (wr.alloc (.cells #[.int .i64 xs, .int .i64 xn, .slice xa xl xc] TV))).drew
            have HFD := Lib.hid hfd
            simp only at hpb
            clear hnd hlt hbad hgood hrw hb1 hcell hc1 hfd hel hxl
            cases j with
            | zero =>
              have HD := Lib.hid (fun W (f : Fp Non (wr.alloc (.cells #[.int .i64 xs, .int .i64 xn, .slice xa xl xc] TV)) W) => And.intro (boxP3 (K1.out W f).1).1 (And.intro (boxP3 (K1.out W f).1).2.1 (boxP3 (K1.out W f).1).2.2))
              have hpt : pb = true := by simpa using hpb.symm
              subst hpt
              clear hpb hjL hjs
              simp only [Nat.zero_mul, Nat.add_zero] at c0 c1 c2
              have q7 : ((0 : Int) < (m : Int)) = True := eq_true (by have := HL.out.2.1; omega)
              go_wp2_with fail
              refine wp_region_held_drew (S := (fun W => W.cell? ⟨wr.heap.size, 0, none⟩ = some (.int .i64 xs) ∧ W.cell? ⟨wr.heap.size, 1, none⟩ = some (.int .i64 xn) ∧ W.cell? ⟨wr.heap.size, 2, none⟩ = some (.slice xa xl xc))) (by kernel_rfl) ?_ (fun hHeld => ?_)
              · exact HD.out _ HFD.out
              refine tk 0 hHeld ?_
              refine rY 1 (fun K hK => ?_)
              go_simp
              refine (HRW.out _ (K1.out _ HFD.out).2.1).mono ?_
              rintro e w2 ⟨rfl, hf⟩
              have F2 := Lib.hid (HFD.out.then hf)
              clear hf
              go_wp2_with fail
              refine hK.out _ _ (HD.out _ F2.out) (fun hHeld => ?_)
              clear hK K
              try simp only [zP, zN, zS, zT, zU]
              cases b1 with
              | false =>
                refine tk 2 hHeld ?_
                refine tk 3 hHeld ?_
                refine sk 4 hHeld ?_
                refine sk 5 hHeld ?_
                refine sk 6 hHeld ?_
                refine sk 7 hHeld ?_
                refine sk 8 hHeld ?_
                refine sk 9 hHeld ?_
                refine sk 10 hHeld ?_
                refine sk 11 hHeld ?_
                refine sk 12 hHeld ?_
                refine sk 13 hHeld ?_
                refine sk 14 hHeld ?_
                refine sk 15 hHeld ?_
                refine sk 16 hHeld ?_
                refine sk 17 hHeld ?_
                refine tk 18 hHeld ?_
                refine yD ?_
                obtain rfl := HG.out.1 (by simp [*])
                go_wp2
                go_ret
                exact ⟨rfl, (K1.out _ F2.out).2.1⟩
              | true =>
                refine tk 2 hHeld ?_
                refine tk 3 hHeld ?_
                refine tk 4 hHeld ?_
                refine tk 5 hHeld ?_
                refine tk 6 hHeld ?_
                refine sk 7 hHeld ?_
                refine sk 8 hHeld ?_
                refine sk 9 hHeld ?_
                refine sk 10 hHeld ?_
                refine sk 11 hHeld ?_
                refine sk 12 hHeld ?_
                refine sk 13 hHeld ?_
                refine sk 14 hHeld ?_
                refine sk 15 hHeld ?_
                refine sk 16 hHeld ?_
                refine tk 17 hHeld ?_
                refine tk 18 hHeld ?_
                refine yD ?_
                have hM : Hid (Kp (fun W' => Fp Non w W' ∧ W'.heap[w.heap.size]? = some (.cells #[.slice aw k cw, .slice (some ⟨g, o, none⟩) m cs] TD (0, 0))) w2 ∧ ∀ q, q < d.ss.length → q < 0 + 1 → okSe d.ss q = true) := ⟨fun W f => (K1.out W (F2.out.then f)).2, HG.out.2 (by simp [*])⟩
                have hkn := HL.out.2.1
                clear HG
                go_wp2
                go_roundw
                case rel => exact ⟨0 + 1, by omega, by go_num, hM⟩
                case measure => simp [RowKit.intOf]; omega
            | succ i =>
              have hil : i < L.length := by omega
              have hpd := (HCE.out i hil).keep hR.out.1.now.1 (fun h => h)
              have hpn : (d.ss[i + 1 - 1]'(by omega)).num = L[i].s.num := by simp only [← HLL.out.1, List.getElem_map, Nat.add_sub_cancel]
              obtain ⟨pn, hpe⟩ : ∃ p, p = L[i].s.num := ⟨_, rfl⟩
              have hpd2 : pb = decide (pn < xs) := by rw [← hpb, dif_pos (Nat.succ_pos i), hpn, ← hpe]
              subst hpd2
              have hp0 := hpd.c0
              rw [← hpe] at hp0
              have HD := Lib.hid (fun W (f : Fp Non (wr.alloc (.cells #[.int .i64 xs, .int .i64 xn, .slice xa xl xc] TV)) W) => And.intro (boxP3 (K1.out W f).1).1 (And.intro (boxP3 (K1.out W f).1).2.1 (And.intro (boxP3 (K1.out W f).1).2.2 (And.intro (boxP2 (K1.out W f).2.2).2 (((fp_alloc wr _).then f).cell hp0 (fun h => h))))))
              have q7 : (i < m) = True := eq_true (by omega)
              have q8 : ((i : Int) < (m : Int)) = True := eq_true (by omega)
              have q9 : ((0 : Int) < (i : Int) + 1) = True := eq_true (by omega)
              have q10 : ((i : Int) + 1 < (m : Int)) = True := eq_true (by have := HL.out.2.1; omega)
              have q11 : IntKind.i64.wrap (i : Int) = (i : Int) := by rw [IntKind.wrap_i64]; omega
              have q12 : ((0 : Int) ≤ (i : Int)) = True := eq_true (by omega)
              clear hpb hjL hjs hil hpd hpn hpe hp0
              go_wp2_with fail
              refine wp_region_held_drew (S := (fun W => W.cell? ⟨wr.heap.size, 0, none⟩ = some (.int .i64 xs) ∧ W.cell? ⟨wr.heap.size, 1, none⟩ = some (.int .i64 xn) ∧ W.cell? ⟨wr.heap.size, 2, none⟩ = some (.slice xa xl xc) ∧ W.cell? ⟨w.heap.size, 1, none⟩ = some (.slice (some ⟨g, o, none⟩) m cs) ∧ W.cell? ⟨g, o + i * 3, none⟩ = some (.int .i64 pn))) (by kernel_rfl) ?_ (fun hHeld => ?_)
              · exact HD.out _ HFD.out
              refine tk 0 hHeld ?_
              refine rY 1 (fun K hK => ?_)
              go_simp
              refine (HRW.out _ (K1.out _ HFD.out).2.1).mono ?_
              rintro e w2 ⟨rfl, hf⟩
              have F2 := Lib.hid (HFD.out.then hf)
              clear hf
              go_wp2_with fail
              refine hK.out _ _ (HD.out _ F2.out) (fun hHeld => ?_)
              clear hK K
              try simp only [zP, zN, zS, zT, zU]
              cases b1 with
              | false =>
                refine tk 2 hHeld ?_
                refine tk 3 hHeld ?_
                refine sk 4 hHeld ?_
                refine sk 5 hHeld ?_
                refine sk 6 hHeld ?_
                refine sk 7 hHeld ?_
                refine sk 8 hHeld ?_
                refine sk 9 hHeld ?_
                refine sk 10 hHeld ?_
                refine sk 11 hHeld ?_
                refine sk 12 hHeld ?_
                refine sk 13 hHeld ?_
                refine sk 14 hHeld ?_
                refine sk 15 hHeld ?_
                refine sk 16 hHeld ?_
                refine sk 17 hHeld ?_
                refine tk 18 hHeld ?_
                refine yD ?_
                obtain rfl := HG.out.1 (by simp [*])
                go_wp2
                go_ret
                exact ⟨rfl, (K1.out _ F2.out).2.1⟩
              | true =>
                refine tk 2 hHeld ?_
                refine tk 3 hHeld ?_
                refine tk 4 hHeld ?_
                refine tk 5 hHeld ?_
                refine tk 6 hHeld ?_
                refine tk 7 hHeld ?_
                refine tk 8 hHeld ?_
                refine tk 9 hHeld ?_
                refine tk 10 hHeld ?_
                refine tk 11 hHeld ?_
                refine tk 12 hHeld ?_
                refine tk 13 hHeld ?_
                refine tk 14 hHeld ?_
                refine tk 15 hHeld ?_
                refine tk 16 hHeld ?_
                refine tk 17 hHeld ?_
                refine tk 18 hHeld ?_
                refine yD ?_
                by_cases hlq : pn < xs
                · have lq : (xs ≤ pn) = False := eq_false (by omega)
                  have hM : Hid (Kp (fun W' => Fp Non w W' ∧ W'.heap[w.heap.size]? = some (.cells #[.slice aw k cw, .slice (some ⟨g, o, none⟩) m cs] TD (0, 0))) w2 ∧ ∀ q, q < d.ss.length → q < (i + 1) + 1 → okSe d.ss q = true) := ⟨fun W f => (K1.out W (F2.out.then f)).2, HG.out.2 (by simp [*])⟩
                  have hkn := HL.out.2.1
                  clear HG
                  go_wp2
                  go_roundw
                  case rel => exact ⟨(i + 1) + 1, by omega, by go_num, hM⟩
                  case measure => simp [RowKit.intOf]; omega
                · have lq : (xs ≤ pn) = True := eq_true (by omega)
                  obtain rfl := HG.out.1 (by simp [*])
                  go_wp2
                  go_ret
                  exact ⟨rfl, (K1.out _ F2.out).2.1⟩
          · have hje : j = m := by omega
            subst hje
            have q5 : ((j : Int) < (j : Int)) = False := eq_false (by omega)
            have hb := HR.out.2 ⟨by rw [← HN.out.1]; exact h64, HA.out, fun i hi => hR.out.2 i hi (by rw [HN.out.2]; exact hi)⟩
            subst hb
            clear hlt hj
            go_wp2
            go_ret
            exact ⟨rfl, hR.out.1.now.1⟩
  · have t1 : ((64 : Int) < (n : Int)) = True := eq_true (by omega)
    have hb : br = false := by
      cases br with
      | false => rfl
      | true => exact absurd ((HR.out.1 rfl).1) (by rw [← HN.out.1]; exact h64)
    subst hb
    go_wp2
    go_ret
    exact ⟨rfl, K0.out.now.1⟩
end Go.Proofs.Ytjdpbieifcjmiaa
