/- The document's Right (gen_zc.py) -/
import Derived.Test.YtjdpbieifcjmiaaYh
import Derived.Test.YtjdpbieifcjmiaaYz
import Derived.Test.YtjdpbieifcjmiaaYg
namespace Go.Proofs.Ytjdpbieifcjmiaa
set_option maxRecDepth 20000
set_option linter.unusedVariables false
set_option linter.unusedSimpArgs false
open Go.RowKit Pm


set_option maxHeartbeats 16000000 in
theorem rRight_w (v : Value) (d : Wd) (w : World) (hv : WdR w v d) (hz : SzD d) :
    Calls Try.prog 8 #[v] w fun e w' => e = .returned (.bool (rightW d)) ∧ Fp Non w w' := by
  obtain ⟨vw, vs, rfl, hw, hs⟩ := hv.ex
  obtain ⟨aw, cw, rfl⟩ := hw.shape
  obtain ⟨at_, cs, rfl⟩ := hs.shape
  clear hv
  have hnb := hz.w
  have hmb := hz.s
  obtain ⟨br, hbr⟩ : ∃ b, rightW d = b := ⟨_, rfl⟩
  rw [hbr]
  have hri : br = true ↔ d.ws.length ≤ 64 ∧ (∀ i, i < d.ws.length → okWt d.ws i = true) ∧ ∀ i, i < d.ss.length → okSe d.ss i = true := by
    rw [← hbr]; unfold rightW; exact decide_eq_true_iff
  obtain ⟨n, hn⟩ : ∃ n, n = d.ws.length := ⟨_, rfl⟩
  obtain ⟨m, hm⟩ : ∃ n, n = d.ss.length := ⟨_, rfl⟩
  have HN := Lib.hid (And.intro hn hm)
  rw [← hn] at hw hnb ⊢
  rw [← hm] at hs hmb ⊢
  have HR := Lib.hid hri
  have HX := Lib.hid (And.intro hw (And.intro hs hz))
  have hf0 := fp_alloc w (.cells #[.slice aw n cw, .slice at_ m cs] TD)
  have r0 := heap_alloc_new w (.cells #[.slice aw n cw, .slice at_ m cs] TD)
  have K0 := Lib.hid (Kp.and (Kp.fp hf0) (Kp.row r0))
  clear hw hs hz hn hm hf0 r0 hbr hri
  obtain ⟨p0, p1⟩ := boxP2 K0.out.now.2
  go_enter Try.func8, Try.ntmps8
  by_cases h64 : n ≤ 64
  · have t1 : ((64 : Int) < (n : Int)) = False := eq_false (by omega)
    go_wp2_with fail
    clear p0 p1
    go_loopw [3] (fun i wr => ∃ k : Nat, k ≤ n ∧ i = .int .i64 k ∧ Hid (Kp (fun W' => Fp Non w W' ∧ W'.heap[w.heap.size]? = some (.cells #[.slice aw n cw, .slice at_ m cs] TD (0, 0))) wr ∧ ∀ j, j < d.ws.length → j < k → okWt d.ws j = true)) (fun i _ => n - (RowKit.intOf i).toNat)
    case atStart => exact ⟨0, Nat.zero_le _, rfl, K0.out, fun j _ h => absurd h (Nat.not_lt_zero j)⟩
    case round =>
      obtain ⟨k, hk, rfl, hR⟩ := hrel
      rename_i wr _
      obtain ⟨p0, p1⟩ := boxP2 hR.out.1.now.2
      by_cases hlt : k < n
      · have hkl : k < d.ws.length := by rw [← HN.out.1]; exact hlt
        obtain ⟨g, o, cap', e, hc1, hc2, hgl, hcell⟩ := HX.out.1.at (by omega)
        injection e with e1 e2 e3
        subst e1 e3
        clear e2
        have hnd := (hcell k hkl).keep hR.out.1.now.1 (fun h => h)
        have hok : okWt d.ws k = (rWt d.ws[k] && !(d.ws.take k).any (hit d.ws[k].s d.ws[k].n)) := by unfold okWt; rw [dif_pos hkl]
        have hpl := HX.out.2.2.wp _ (List.getElem_mem hkl)
        have hbad : okWt d.ws k = false → br = false := fun h => by
          cases br with
          | false => rfl
          | true => have := (HR.out.1 rfl).2.1 k hkl; rw [h] at this; cases this
        have hgood : okWt d.ws k = true → ∀ j, j < d.ws.length → j < k + 1 → okWt d.ws j = true := fun h j hj hjk => by
          rcases Nat.lt_or_eq_of_le (show j ≤ k by omega) with e | e
          · exact hR.out.2 j hj e
          · subst e; exact h
        rw [hok] at hbad hgood
        have HCE := Lib.hid hcell
        clear hcell hok
        generalize d.ws[k] = x at *
        obtain ⟨xs, xn, xp, xd⟩ := x
        have c0 := hnd.c0; have c1 := hnd.c1; have c2 := hnd.c2; have c3 := hnd.c3
        unfold strV at c2
        simp only at c0 c1 c2 c3 hbad hgood hpl
        have hre : rWt ⟨xs, xn, xp, xd⟩ = (isN xs && isN xn && (split xp).isSome) := rfl
        rw [hre] at hbad hgood
        have h1 := fun w => number_c xs w
        have h2 := fun w => number_c xn w
        have h3 := fun w => rRight_g xp w (sz_of hpl (by omega))
        generalize isN xs = b1 at *
        generalize isN xn = b2 at *
        generalize (split xp).isSome = b3 at *
        have H1 := Lib.hid h1
        have H2 := Lib.hid h2
        have H3 := Lib.hid h3
        have HG := Lib.hid (And.intro hbad hgood)
        have HL := Lib.hid (And.intro hkl hlt)
        have K1 := Lib.hid (Kp.and (Kp.row (heap_alloc_new wr (.cells #[.int .i64 xs, .int .i64 xn, .string (B xp), .bool xd] TW))) (hR.out.1.later (fp_alloc wr (.cells #[.int .i64 xs, .int .i64 xn, .string (B xp), .bool xd] TW))))
        obtain ⟨x0, x1, x2, x3⟩ := boxP4 K1.out.now.1
        have q5 : ((k : Int) < (n : Int)) = True := eq_true (by omega)
        have q6 : (k < n) = True := eq_true hlt
        clear hnd hkl hlt hpl hbad hgood h1 h2 h3 hre hc1
        go_wp2_with fail
        refine (H1.out _).mono ?_
        rintro e w1 ⟨rfl, rfl⟩
        cases b1 with
        | false =>
          obtain rfl := HG.out.1 (by simp)
          go_wp2
          go_ret
          exact ⟨rfl, K1.out.now.2.1⟩
        | true =>
          go_wp2_with fail
          refine (H2.out _).mono ?_
          rintro e w1 ⟨rfl, rfl⟩
          cases b2 with
          | false =>
            obtain rfl := HG.out.1 (by simp)
            go_wp2
            go_ret
            exact ⟨rfl, K1.out.now.2.1⟩
          | true =>
            go_wp2_with fail
            refine (H3.out _).mono ?_
            rintro e w2 ⟨rfl, hf⟩
            have K2 := Lib.hid (K1.out.later hf.fp)
            have HX2 := Lib.hid hf.fp.size
            clear hf x0 x1 x2 x3 p0 p1
            cases b3 with
            | false =>
              obtain rfl := HG.out.1 (by simp)
              go_wp2
              go_ret
              exact ⟨rfl, K2.out.now.2.1⟩
            | true =>
              go_wp2_with fail
              obtain ⟨X, hX⟩ : ∃ X, X = wr.heap.size := ⟨_, rfl⟩
              rw [← hX] at K2 ⊢
              clear hX
              go_loopw [5] (fun i wr => ∃ j : Nat, j ≤ k ∧ i = .int .i64 j ∧ Hid (Kp (fun W' => W'.heap[X]? = some (.cells #[.int .i64 xs, .int .i64 xn, .string (B xp), .bool xd] TW (0, 0)) ∧ Fp Non w W' ∧ W'.heap[w.heap.size]? = some (.cells #[.slice (some ⟨g, o, none⟩) n cw, .slice at_ m cs] TD (0, 0))) wr ∧ ∀ i (hi : i < d.ws.length), i < j → hit xs xn d.ws[i] = false)) (fun i _ => k - (RowKit.intOf i).toNat)
              case atStart => exact ⟨0, Nat.zero_le _, rfl, K2.out, fun j _ h => absurd h (Nat.not_lt_zero j)⟩
              case round =>
                obtain ⟨j, hj, rfl, hJ⟩ := hrel
                rename World => wr2
                by_cases hlt : j < k
                · have hjl : j < d.ws.length := by have := HL.out.1; omega
                  have hnd := (HCE.out j hjl).keep hJ.out.1.now.2.1 (fun h => h)
                  have hfound : hit xs xn d.ws[j] = true → br = false := fun h => HG.out.1 (by
                    have : (d.ws.take k).any (hit xs xn) = true := List.any_eq_true.2 ⟨d.ws[j], by rw [List.mem_take_iff_getElem]; exact ⟨j, by have := HL.out.1; omega, rfl⟩, h⟩
                    rw [this]; simp)
                  have hnext : hit xs xn d.ws[j] = false → ∀ i (hi : i < d.ws.length), i < j + 1 → hit xs xn d.ws[i] = false := fun h i hi hij => by
                    rcases Nat.lt_or_eq_of_le (show i ≤ j by omega) with e | e
                    · exact hJ.out.2 i hi e
                    · subst e; exact h
                  have HF := Lib.hid (And.intro hfound hnext)
                  have HJL := Lib.hid hlt
                  clear hfound hnext
                  generalize d.ws[j] = y at *
                  clear hjl
                  obtain ⟨ys, yn, yp, yd⟩ := y
                  have hh : hit xs xn ⟨ys, yn, yp, yd⟩ = decide (ys = xs ∧ yn = xn) := rfl
                  rw [hh] at HF
                  have HC := Lib.hid (And.intro hnd.c0 hnd.c1)
                  have HWD := Lib.hid (Fp.refl Non wr2).drew
                  have hjn : j < n := by have := HL.out.2; omega
                  have q7 : ((j : Int) < (k : Int)) = True := eq_true (by omega)
                  have q8 : (j < k) = True := eq_true hlt
                  have q9 : ((j : Int) < (n : Int)) = True := eq_true (by omega)
                  have q10 : (j < n) = True := eq_true hjn
                  clear hnd hlt hh hjn
                  by_cases e1 : ys = xs
                  · have u1 : (ys == xs) = true := by simpa using e1
                    by_cases e2 : yn = xn
                    · have u2 : (yn == xn) = true := by simpa using e2
                      go_wp2_with fail
                      refine wp_region_held_drew (S := (fun W => W.cell? ⟨w.heap.size, 0, none⟩ = some (.slice (some ⟨g, o, none⟩) n cw) ∧ W.cell? ⟨g, o + j * 4, none⟩ = some (.int .i64 ys) ∧ W.cell? ⟨g, o + j * 4 + 1, none⟩ = some (.int .i64 yn) ∧ W.cell? ⟨X, 0, none⟩ = some (.int .i64 xs) ∧ W.cell? ⟨X, 1, none⟩ = some (.int .i64 xn))) (by kernel_rfl) ?_ (fun hHeld => ?_)
                      · exact (And.intro (boxP2 (hJ.out.1 _ HWD.out).2.2).1 (And.intro (HWD.out.cell HC.out.1 (fun h => h)) (And.intro (HWD.out.cell HC.out.2 (fun h => h)) (And.intro (boxP4 (hJ.out.1 _ HWD.out).1).1 (boxP4 (hJ.out.1 _ HWD.out).1).2.1))))
                      refine tk 0 hHeld ?_
                      refine tk 1 hHeld ?_
                      refine tk 2 hHeld ?_
                      refine tk 3 hHeld ?_
                      refine tk 4 hHeld ?_
                      refine tk 5 hHeld ?_
                      refine tk 6 hHeld ?_
                      refine tk 7 hHeld ?_
                      refine tk 8 hHeld ?_
                      refine tk 9 hHeld ?_
                      refine tk 10 hHeld ?_
                      refine tk 11 hHeld ?_
                      refine tk 12 hHeld ?_
                      refine tk 13 hHeld ?_
                      refine tk 14 hHeld ?_
                      refine tk 15 hHeld ?_
                      refine tk 16 hHeld ?_
                      refine tk 17 hHeld ?_
                      refine tk 18 hHeld ?_
                      refine tk 19 hHeld ?_
                      refine yD ?_
                      obtain rfl := HF.out.1 (decide_eq_true ⟨e1, e2⟩)
                      go_wp2
                      go_ret
                      exact ⟨rfl, (hJ.out.1 _ HWD.out).2.1⟩
                    · have u2 : (yn == xn) = false := by simpa using e2
                      go_wp2_with fail
                      refine wp_region_held_drew (S := (fun W => W.cell? ⟨w.heap.size, 0, none⟩ = some (.slice (some ⟨g, o, none⟩) n cw) ∧ W.cell? ⟨g, o + j * 4, none⟩ = some (.int .i64 ys) ∧ W.cell? ⟨g, o + j * 4 + 1, none⟩ = some (.int .i64 yn) ∧ W.cell? ⟨X, 0, none⟩ = some (.int .i64 xs) ∧ W.cell? ⟨X, 1, none⟩ = some (.int .i64 xn))) (by kernel_rfl) ?_ (fun hHeld => ?_)
                      · exact (And.intro (boxP2 (hJ.out.1 _ HWD.out).2.2).1 (And.intro (HWD.out.cell HC.out.1 (fun h => h)) (And.intro (HWD.out.cell HC.out.2 (fun h => h)) (And.intro (boxP4 (hJ.out.1 _ HWD.out).1).1 (boxP4 (hJ.out.1 _ HWD.out).1).2.1))))
                      refine tk 0 hHeld ?_
                      refine tk 1 hHeld ?_
                      refine tk 2 hHeld ?_
                      refine tk 3 hHeld ?_
                      refine tk 4 hHeld ?_
                      refine tk 5 hHeld ?_
                      refine tk 6 hHeld ?_
                      refine tk 7 hHeld ?_
                      refine tk 8 hHeld ?_
                      refine tk 9 hHeld ?_
                      refine tk 10 hHeld ?_
                      refine tk 11 hHeld ?_
                      refine tk 12 hHeld ?_
                      refine tk 13 hHeld ?_
                      refine tk 14 hHeld ?_
                      refine tk 15 hHeld ?_
                      refine tk 16 hHeld ?_
                      refine tk 17 hHeld ?_
                      refine tk 18 hHeld ?_
                      refine tk 19 hHeld ?_
                      refine yD ?_
                      have hM : Hid (Kp (fun W' => W'.heap[X]? = some (.cells #[.int .i64 xs, .int .i64 xn, .string (B xp), .bool xd] TW (0, 0)) ∧ Fp Non w W' ∧ W'.heap[w.heap.size]? = some (.cells #[.slice (some ⟨g, o, none⟩) n cw, .slice at_ m cs] TD (0, 0))) wr2.drew ∧ ∀ i (hi : i < d.ws.length), i < j + 1 → hit xs xn d.ws[i] = false) := ⟨hJ.out.1.later HWD.out, HF.out.2 (decide_eq_false (fun e => by have h1 := e.1; have h2 := e.2; first | contradiction | (simp_all; done) | omega))⟩
                      have hkn := HJL.out
                      clear HF
                      go_wp2
                      go_roundw
                      case rel => exact ⟨j + 1, by omega, by go_num, hM⟩
                      case measure => simp [RowKit.intOf]; omega
                  · have u1 : (ys == xs) = false := by simpa using e1
                    go_wp2_with fail
                    refine wp_region_held_drew (S := (fun W => W.cell? ⟨w.heap.size, 0, none⟩ = some (.slice (some ⟨g, o, none⟩) n cw) ∧ W.cell? ⟨g, o + j * 4, none⟩ = some (.int .i64 ys) ∧ W.cell? ⟨g, o + j * 4 + 1, none⟩ = some (.int .i64 yn) ∧ W.cell? ⟨X, 0, none⟩ = some (.int .i64 xs) ∧ W.cell? ⟨X, 1, none⟩ = some (.int .i64 xn))) (by kernel_rfl) ?_ (fun hHeld => ?_)
                    · exact (And.intro (boxP2 (hJ.out.1 _ HWD.out).2.2).1 (And.intro (HWD.out.cell HC.out.1 (fun h => h)) (And.intro (HWD.out.cell HC.out.2 (fun h => h)) (And.intro (boxP4 (hJ.out.1 _ HWD.out).1).1 (boxP4 (hJ.out.1 _ HWD.out).1).2.1))))
                    refine tk 0 hHeld ?_
                    refine tk 1 hHeld ?_
                    refine tk 2 hHeld ?_
                    refine tk 3 hHeld ?_
                    refine tk 4 hHeld ?_
                    refine tk 5 hHeld ?_
                    refine tk 6 hHeld ?_
                    refine tk 7 hHeld ?_
                    refine tk 8 hHeld ?_
                    refine tk 9 hHeld ?_
                    refine sk 10 hHeld ?_
                    refine sk 11 hHeld ?_
                    refine sk 12 hHeld ?_
                    refine sk 13 hHeld ?_
                    refine sk 14 hHeld ?_
                    refine sk 15 hHeld ?_
                    refine sk 16 hHeld ?_
                    refine sk 17 hHeld ?_
                    refine sk 18 hHeld ?_
                    refine tk 19 hHeld ?_
                    refine yD ?_
                    have hM : Hid (Kp (fun W' => W'.heap[X]? = some (.cells #[.int .i64 xs, .int .i64 xn, .string (B xp), .bool xd] TW (0, 0)) ∧ Fp Non w W' ∧ W'.heap[w.heap.size]? = some (.cells #[.slice (some ⟨g, o, none⟩) n cw, .slice at_ m cs] TD (0, 0))) wr2.drew ∧ ∀ i (hi : i < d.ws.length), i < j + 1 → hit xs xn d.ws[i] = false) := ⟨hJ.out.1.later HWD.out, HF.out.2 (decide_eq_false (fun e => by have h1 := e.1; have h2 := e.2; first | contradiction | (simp_all; done) | omega))⟩
                    have hkn := HJL.out
                    clear HF
                    go_wp2
                    go_roundw
                    case rel => exact ⟨j + 1, by omega, by go_num, hM⟩
                    case measure => simp [RowKit.intOf]; omega
                · have hje : j = k := by omega
                  subst hje
                  have q7 : ((j : Int) < (j : Int)) = False := eq_false (by omega)
                  have hnone : (d.ws.take j).any (hit xs xn) = false := by
                    rw [List.any_eq_false]
                    intro y hy
                    obtain ⟨i, hi, rfl⟩ := List.mem_take_iff_getElem.1 hy
                    have hl := HL.out.1
                    rw [hJ.out.2 i (by omega) (by omega)]
                    exact Bool.false_ne_true
                  have hM : Hid (Kp (fun W' => Fp Non w W' ∧ W'.heap[w.heap.size]? = some (.cells #[.slice (some ⟨g, o, none⟩) n cw, .slice at_ m cs] TD (0, 0))) wr2 ∧ ∀ i, i < d.ws.length → i < j + 1 → okWt d.ws i = true) := ⟨fun W f => (hJ.out.1 W f).2, HG.out.2 (by rw [hnone]; rfl)⟩
                  have hkn := HL.out.2
                  clear hlt hj hnone HG
                  go_wp2
                  go_roundw
                  case rel => exact ⟨j + 1, by omega, by go_num, hM⟩
                  case measure => simp [RowKit.intOf]; omega
      · have hke : k = n := by omega
        subst hke
        have q5 : ((k : Int) < (k : Int)) = False := eq_false (by omega)
        have HA := Lib.hid (show ∀ i, i < d.ws.length → okWt d.ws i = true from fun i hi => hR.out.2 i hi (by rw [HN.out.1]; exact hi))
        clear hlt hk
        go_wp2_with fail
        obtain ⟨L, hL, hv, he⟩ := HX.out.2.1.ex
        have hLm : L.length = m := by rw [HN.out.2, ← hL, List.length_map]
        have HLL := Lib.hid (And.intro hL (And.intro hLm (And.intro hv he)))
        have K2 := Lib.hid hR.out.1
        clear hL hLm hv he hR p0 p1
        go_loopw [6] (fun i wr => ∃ j : Nat, j ≤ m ∧ i = .int .i64 j ∧ Hid (Kp (fun W' => Fp Non w W' ∧ W'.heap[w.heap.size]? = some (.cells #[.slice aw k cw, .slice at_ m cs] TD (0, 0))) wr ∧ ∀ i, i < d.ss.length → i < j → okSe d.ss i = true)) (fun i _ => m - (RowKit.intOf i).toNat)
        case atStart => exact ⟨0, Nat.zero_le _, rfl, K2.out, fun j _ h => absurd h (Nat.not_lt_zero j)⟩
        case round =>
          clear K2
          obtain ⟨j, hj, rfl, hR⟩ := hrel
          rename_i wr _
          obtain ⟨p0, p1⟩ := boxP2 hR.out.1.now.2
          by_cases hlt : j < m
          · have hjL : j < L.length := by rw [HLL.out.2.1]; exact hlt
            have hjs : j < d.ss.length := by rw [← HN.out.2]; exact hlt
            have hel : d.ss[j] = L[j].s := by simp only [← HLL.out.1, List.getElem_map]
            obtain ⟨g, o, cap', e, hc1, hc2, hgl, hcell⟩ := HLL.out.2.2.1.at (by omega)
            injection e with e1 e2 e3
            subst e1 e3
            clear e2
            have hnd := (hcell j hjL).keep hR.out.1.now.1 (fun h => h)
            have hev := HLL.out.2.2.2 _ (List.getElem_mem hjL)
            have hsz := HX.out.2.2.sp d.ss[j] (List.getElem_mem hjs)
            rw [hel] at hsz
            have hok : okSe d.ss j = (rSe d.ss[j] && (if h0 : 0 < j then decide (d.ss[j-1].num < d.ss[j].num) else true)) := by unfold okSe; rw [dif_pos hjs]
            rw [hel] at hok
            obtain ⟨pb, hpb⟩ : ∃ b, (if h0 : 0 < j then decide ((d.ss[j-1]'(by omega)).num < L[j].s.num) else true) = b := ⟨_, rfl⟩
            rw [hpb] at hok
            have hbad : okSe d.ss j = false → br = false := fun h => by
              cases br with
              | false => rfl
              | true => have := (HR.out.1 rfl).2.2 j hjs; rw [h] at this; cases this
            have hgood : okSe d.ss j = true → ∀ i, i < d.ss.length → i < j + 1 → okSe d.ss i = true := fun h i hi hik => by
              rcases Nat.lt_or_eq_of_le (show i ≤ j by omega) with e | e
              · exact hR.out.2 i hi e
              · subst e; exact h
            rw [hok] at hbad hgood
            have hrw := fun W (f : Fp Non w W) => rSession_c L[j] W (hev.non f) hsz.1 hsz.2
            have HL := Lib.hid (And.intro hjL (And.intro hlt hjs))
            have HCE := Lib.hid hcell
            clear hok hev hsz
            generalize L[j] = x at *
            have HS := Lib.hid hnd
            obtain ⟨⟨xs, xn, xe⟩, xa, xc⟩ := x
            unfold svV Sv.ev at hrw
            simp only at hbad hgood hrw
            obtain ⟨xl, hxl⟩ : ∃ n, n = xe.length := ⟨_, rfl⟩
            have HC2 := Lib.hid (show ∀ W, Fp Non wr W → W.cell? ⟨g, o + j * 3 + 2, none⟩ = some (.slice xa xl xc) from fun W f => by
              have h1 := (HS.out.keep f (fun h => h)).c2
              unfold Sv.ev at h1
              rw [hxl]
              exact h1)
            rw [← hxl] at hrw
            obtain ⟨b1, hb1⟩ : ∃ b, rSe ⟨xs, xn, xe⟩ = b := ⟨_, rfl⟩
            rw [hb1] at hrw hbad hgood
            have HRW := Lib.hid hrw
            have HG := Lib.hid (And.intro hbad hgood)
            have q5 : ((j : Int) < (m : Int)) = True := eq_true (by omega)
            have q6 : (j < m) = True := eq_true hlt
            have HWD := Lib.hid (Fp.refl Non wr).drew
            simp only at hpb
            clear hnd hlt hbad hgood hrw hb1 hcell hc1 hel hxl
            cases j with
            | zero =>
              have hpt : pb = true := by simpa using hpb.symm
              subst hpt
              clear hpb hjL hjs
              have HD := Lib.hid (fun W (f : Fp Non wr W) => And.intro (boxP2 (hR.out.1 W f).2).2 (And.intro (HS.out.keep f (fun h => h)).c0 (And.intro (HS.out.keep f (fun h => h)).c1 (HC2.out W f))))
              simp only [Nat.zero_mul, Nat.add_zero] at HD
              have q7 : ((0 : Int) < (m : Int)) = True := eq_true (by have := HL.out.2.1; omega)
              go_wp2_with fail
              refine wp_region_held_drew (S := (fun W => W.cell? ⟨w.heap.size, 1, none⟩ = some (.slice (some ⟨g, o, none⟩) m cs) ∧ W.cell? ⟨g, o, none⟩ = some (.int .i64 xs) ∧ W.cell? ⟨g, o + 1, none⟩ = some (.int .i64 xn) ∧ W.cell? ⟨g, o + 2, none⟩ = some (.slice xa xl xc))) (by kernel_rfl) ?_ (fun hHeld => ?_)
              · exact HD.out _ HWD.out
              refine tk 0 hHeld ?_
              refine tk 1 hHeld ?_
              refine tk 2 hHeld ?_
              refine tk 3 hHeld ?_
              refine tk 4 hHeld ?_
              refine rY 5 (fun K hK => ?_)
              go_simp
              refine (HRW.out _ (hR.out.1 _ HWD.out).1).mono ?_
              rintro e w2 ⟨rfl, hf⟩
              have F2 := Lib.hid (HWD.out.then hf)
              clear hf
              go_wp2_with fail
              refine hK.out _ _ (HD.out _ F2.out) (fun hHeld => ?_)
              clear hK K
              try simp only [zP, zN, zS, zT, zU]
              cases b1 with
              | false =>
                refine tk 6 hHeld ?_
                refine tk 7 hHeld ?_
                refine sk 8 hHeld ?_
                refine sk 9 hHeld ?_
                refine sk 10 hHeld ?_
                refine sk 11 hHeld ?_
                refine sk 12 hHeld ?_
                refine sk 13 hHeld ?_
                refine sk 14 hHeld ?_
                refine sk 15 hHeld ?_
                refine sk 16 hHeld ?_
                refine sk 17 hHeld ?_
                refine sk 18 hHeld ?_
                refine sk 19 hHeld ?_
                refine sk 20 hHeld ?_
                refine sk 21 hHeld ?_
                refine sk 22 hHeld ?_
                refine sk 23 hHeld ?_
                refine sk 24 hHeld ?_
                refine sk 25 hHeld ?_
                refine tk 26 hHeld ?_
                refine yD ?_
                obtain rfl := HG.out.1 (by simp [*])
                go_wp2
                go_ret
                exact ⟨rfl, (hR.out.1 _ F2.out).1⟩
              | true =>
                refine tk 6 hHeld ?_
                refine tk 7 hHeld ?_
                refine tk 8 hHeld ?_
                refine tk 9 hHeld ?_
                refine tk 10 hHeld ?_
                refine sk 11 hHeld ?_
                refine sk 12 hHeld ?_
                refine sk 13 hHeld ?_
                refine sk 14 hHeld ?_
                refine sk 15 hHeld ?_
                refine sk 16 hHeld ?_
                refine sk 17 hHeld ?_
                refine sk 18 hHeld ?_
                refine sk 19 hHeld ?_
                refine sk 20 hHeld ?_
                refine sk 21 hHeld ?_
                refine sk 22 hHeld ?_
                refine sk 23 hHeld ?_
                refine sk 24 hHeld ?_
                refine tk 25 hHeld ?_
                refine tk 26 hHeld ?_
                refine yD ?_
                have hM : Hid (Kp (fun W' => Fp Non w W' ∧ W'.heap[w.heap.size]? = some (.cells #[.slice aw k cw, .slice (some ⟨g, o, none⟩) m cs] TD (0, 0))) w2 ∧ ∀ q, q < d.ss.length → q < 0 + 1 → okSe d.ss q = true) := ⟨hR.out.1.later F2.out, HG.out.2 (by simp [*])⟩
                have hkn := HL.out.2.1
                clear HG
                go_wp2
                go_roundw
                case rel => exact ⟨0 + 1, by omega, by go_num, hM⟩
                case measure => simp [RowKit.intOf]; omega
            | succ i =>
              have hil : i < L.length := by omega
              have hpd := (HCE.out i hil).keep hR.out.1.now.1 (fun h => h)
              have hpn : (d.ss[i + 1 - 1]'(by omega)).num = L[i].s.num := by simp only [← HLL.out.1, List.getElem_map, Nat.add_sub_cancel]
              obtain ⟨pn, hpe⟩ : ∃ p, p = L[i].s.num := ⟨_, rfl⟩
              have hpd2 : pb = decide (pn < xs) := by rw [← hpb, dif_pos (Nat.succ_pos i), hpn, ← hpe]
              subst hpd2
              have hp0 := hpd.c0
              rw [← hpe] at hp0
              have HD := Lib.hid (fun W (f : Fp Non wr W) => And.intro (And.intro (boxP2 (hR.out.1 W f).2).2 (And.intro (HS.out.keep f (fun h => h)).c0 (And.intro (HS.out.keep f (fun h => h)).c1 (HC2.out W f)))) (f.cell hp0 (fun h => h)))
              have q7 : (i < m) = True := eq_true (by omega)
              have q8 : ((i : Int) < (m : Int)) = True := eq_true (by omega)
              have q9 : ((0 : Int) < (i : Int) + 1) = True := eq_true (by omega)
              have q10 : ((i : Int) + 1 < (m : Int)) = True := eq_true (by have := HL.out.2.1; omega)
              have q11 : IntKind.i64.wrap (i : Int) = (i : Int) := by rw [IntKind.wrap_i64]; omega
              have q12 : ((0 : Int) ≤ (i : Int)) = True := eq_true (by omega)
              have q13 : ((0 : Int) ≤ (i : Int) + 1) = True := eq_true (by omega)
              clear hpb hjL hjs hil hpd hpn hpe hp0
              go_wp2_with fail
              refine wp_region_held_drew (S := (fun W => (W.cell? ⟨w.heap.size, 1, none⟩ = some (.slice (some ⟨g, o, none⟩) m cs) ∧ W.cell? ⟨g, o + (i + 1) * 3, none⟩ = some (.int .i64 xs) ∧ W.cell? ⟨g, o + (i + 1) * 3 + 1, none⟩ = some (.int .i64 xn) ∧ W.cell? ⟨g, o + (i + 1) * 3 + 2, none⟩ = some (.slice xa xl xc)) ∧ W.cell? ⟨g, o + i * 3, none⟩ = some (.int .i64 pn))) (by kernel_rfl) ?_ (fun hHeld => ?_)
              · exact HD.out _ HWD.out
              refine tk 0 hHeld ?_
              refine tk 1 hHeld ?_
              refine tk 2 hHeld ?_
              refine tk 3 hHeld ?_
              refine tk 4 hHeld ?_
              refine rY 5 (fun K hK => ?_)
              go_simp
              refine (HRW.out _ (hR.out.1 _ HWD.out).1).mono ?_
              rintro e w2 ⟨rfl, hf⟩
              have F2 := Lib.hid (HWD.out.then hf)
              clear hf
              go_wp2_with fail
              refine hK.out _ _ (HD.out _ F2.out) (fun hHeld => ?_)
              clear hK K
              try simp only [zP, zN, zS, zT, zU]
              cases b1 with
              | false =>
                refine tk 6 hHeld ?_
                refine tk 7 hHeld ?_
                refine sk 8 hHeld ?_
                refine sk 9 hHeld ?_
                refine sk 10 hHeld ?_
                refine sk 11 hHeld ?_
                refine sk 12 hHeld ?_
                refine sk 13 hHeld ?_
                refine sk 14 hHeld ?_
                refine sk 15 hHeld ?_
                refine sk 16 hHeld ?_
                refine sk 17 hHeld ?_
                refine sk 18 hHeld ?_
                refine sk 19 hHeld ?_
                refine sk 20 hHeld ?_
                refine sk 21 hHeld ?_
                refine sk 22 hHeld ?_
                refine sk 23 hHeld ?_
                refine sk 24 hHeld ?_
                refine sk 25 hHeld ?_
                refine tk 26 hHeld ?_
                refine yD ?_
                obtain rfl := HG.out.1 (by simp [*])
                go_wp2
                go_ret
                exact ⟨rfl, (hR.out.1 _ F2.out).1⟩
              | true =>
                refine tk 6 hHeld ?_
                refine tk 7 hHeld ?_
                refine tk 8 hHeld ?_
                refine tk 9 hHeld ?_
                refine tk 10 hHeld ?_
                refine tk 11 hHeld ?_
                refine tk 12 hHeld ?_
                refine tk 13 hHeld ?_
                refine tk 14 hHeld ?_
                refine tk 15 hHeld ?_
                refine tk 16 hHeld ?_
                refine tk 17 hHeld ?_
                refine tk 18 hHeld ?_
                refine tk 19 hHeld ?_
                refine tk 20 hHeld ?_
                refine tk 21 hHeld ?_
                refine tk 22 hHeld ?_
                refine tk 23 hHeld ?_
                refine tk 24 hHeld ?_
                refine tk 25 hHeld ?_
                refine tk 26 hHeld ?_
                refine yD ?_
                by_cases hlq : pn < xs
                · have lq : (xs ≤ pn) = False := eq_false (by omega)
                  have hM : Hid (Kp (fun W' => Fp Non w W' ∧ W'.heap[w.heap.size]? = some (.cells #[.slice aw k cw, .slice (some ⟨g, o, none⟩) m cs] TD (0, 0))) w2 ∧ ∀ q, q < d.ss.length → q < (i + 1) + 1 → okSe d.ss q = true) := ⟨hR.out.1.later F2.out, HG.out.2 (by simp [*])⟩
                  have hkn := HL.out.2.1
                  clear HG
                  go_wp2
                  go_roundw
                  case rel => exact ⟨(i + 1) + 1, by omega, by go_num, hM⟩
                  case measure => simp [RowKit.intOf]; omega
                · have lq : (xs ≤ pn) = True := eq_true (by omega)
                  obtain rfl := HG.out.1 (by simp [*])
                  go_wp2
                  go_ret
                  exact ⟨rfl, (hR.out.1 _ F2.out).1⟩
          · have hje : j = m := by omega
            subst hje
            have q5 : ((j : Int) < (j : Int)) = False := eq_false (by omega)
            have hb := HR.out.2 ⟨by rw [← HN.out.1]; exact h64, HA.out, fun i hi => hR.out.2 i hi (by rw [HN.out.2]; exact hi)⟩
            subst hb
            clear hlt hj
            go_wp2
            go_ret
            exact ⟨rfl, hR.out.1.now.1⟩
  · have t1 : ((64 : Int) < (n : Int)) = True := eq_true (by omega)
    have hb : br = false := by
      cases br with
      | false => rfl
      | true => exact absurd ((HR.out.1 rfl).1) (by rw [← HN.out.1]; exact h64)
    subst hb
    go_wp2
    go_ret
    exact ⟨rfl, K0.out.now.1⟩
end Go.Proofs.Ytjdpbieifcjmiaa
