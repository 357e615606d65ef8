/- GreatAll (gen_zh.py) -/
import Derived.Test.YtjdpbieifcjmiaaZf
namespace Go.Proofs.Ytjdpbieifcjmiaa
set_option maxRecDepth 20000
set_option linter.unusedVariables false
set_option linter.unusedSimpArgs false
open Go.RowKit Pm


def fineS (N : Int) (s : Se) : Prop := (s.evs.length : Int) ≤ N ∧ ∀ i (h : i < s.evs.length), min (s.evs[i].p.length : Int) 3000 ≤ N
structure Ga (d : Wd) (N : Int) (a k : Nat) : Prop where
  lo : (d.ws.length : Int) + d.ss.length ≤ N
  w : ∀ i (h : i < d.ws.length), i < a → min (d.ws[i].p.length : Int) 3000 ≤ N
  s : ∀ i (h : i < d.ss.length), i < k → fineS N d.ss[i]
structure Gi (s : Se) (N : Int) (j : Nat) : Prop where
  lo : (j : Int) ≤ N
  e : ∀ i (h : i < s.evs.length), i < j → min (s.evs[i].p.length : Int) 3000 ≤ N
theorem min3 (a : Nat) : (0 : Int) ≤ min (a : Int) 3000 ∧ min (a : Int) 3000 ≤ 3000 := by omega
theorem Ga.up {d : Wd} {N M : Int} {a k : Nat} (h : Ga d N a k) (hM : N ≤ M) : Ga d M a k :=
  ⟨by have := h.lo; omega, fun i hi hk => by have := h.w i hi hk; omega, fun i hi hk => ⟨by have := (h.s i hi hk).1; omega, fun j hj => by have := (h.s i hi hk).2 j hj; omega⟩⟩
theorem Ga.wt {d : Wd} {N : Int} {a : Nat} (h : Ga d N a 0) (ha : a < d.ws.length) : Ga d (N + min (d.ws[a].p.length : Int) 3000) (a + 1) 0 := by
  have m1 := min3 d.ws[a].p.length
  have hN : 0 ≤ N := by have := h.lo; omega
  have g := h.up (show N ≤ N + min (d.ws[a].p.length : Int) 3000 by omega)
  refine ⟨g.lo, fun i hi hk => ?_, fun i hi hk => absurd hk (Nat.not_lt_zero i)⟩
  by_cases e : i = a
  · subst e; omega
  · exact g.w i hi (by omega)
theorem Ga.se {d : Wd} {N : Int} {a k : Nat} (h : Ga d N a k) (hk : k < d.ss.length) (g : Gi d.ss[k] N d.ss[k].evs.length) : Ga d N a (k + 1) := by
  refine ⟨h.lo, h.w, fun i hi hik => ?_⟩
  by_cases e : i = k
  · subst e; exact ⟨g.lo, fun j hj => g.e j hj hj⟩
  · exact h.s i hi (by omega)
theorem Gi.ev {s : Se} {N : Int} {j : Nat} (h : Gi s N j) (hj : j < s.evs.length) : Gi s (N + 1 + min (s.evs[j].p.length : Int) 3000) (j + 1) := by
  have m1 := min3 s.evs[j].p.length
  have := h.lo
  refine ⟨by omega, fun i hi hk => ?_⟩
  by_cases e : i = j
  · subst e; omega
  · have := h.e i hi (by omega); omega
theorem Gi.start {s : Se} {N : Int} (h : 0 ≤ N) : Gi s N 0 := ⟨h, fun i hi hk => absurd hk (Nat.not_lt_zero i)⟩
/-- Not too much. -/
structure Few (d : Wd) : Prop where
  n : d.ws.length + d.ss.length ≤ 3000
  w : ∀ x ∈ d.ws, x.p.length ≤ 3000
  s : ∀ s ∈ d.ss, s.evs.length ≤ 3000 ∧ ∀ e ∈ s.evs, e.p.length ≤ 3000
theorem Ga.few {d : Wd} {N : Int} (h : Ga d N d.ws.length d.ss.length) (hN : N < 3000) : Few d := by
  refine ⟨by have := h.lo; omega, fun x hx => ?_, fun s hs => ?_⟩
  · obtain ⟨i, hi, rfl⟩ := List.mem_iff_getElem.1 hx
    have := h.w i hi hi; omega
  · obtain ⟨i, hi, rfl⟩ := List.mem_iff_getElem.1 hs
    have g := h.s i hi hi
    refine ⟨by have := g.1; omega, fun e he => ?_⟩
    obtain ⟨j, hj, rfl⟩ := List.mem_iff_getElem.1 he
    have := g.2 j hj; omega
theorem Few.sz {d : Wd} (h : Few d) : SzD d := by
  refine ⟨by have := h.n; omega, by have := h.n; omega, fun x hx => by have := h.w x hx; omega, fun s hs => ⟨by have := (h.s s hs).1; omega, fun e he => by have := (h.s s hs).2 e he; omega⟩⟩

set_option maxHeartbeats 16000000 in
theorem GreatAll_c (v : Value) (d : Wd) (w : World) (hv : WdR w v d) (hn : d.ws.length ≤ 140737488355328) (hm : d.ss.length ≤ 140737488355328) :
    Calls Try.prog 6 #[v] w fun e w' => ∃ g : Bool, e = .returned (.bool g) ∧ (g = false → Few d) ∧ Fp Non w w' := by
  obtain ⟨vw, vs, rfl, hW, L, hL, hV, hE⟩ := hv.ex
  obtain ⟨aw, cw, rfl⟩ := hW.shape
  obtain ⟨at_, cs, rfl⟩ := hV.shape
  have hml : L.length = d.ss.length := by rw [← hL, List.length_map]
  obtain ⟨n, hnn⟩ : ∃ n, n = d.ws.length := ⟨_, rfl⟩
  obtain ⟨m, hmm⟩ : ∃ m, m = L.length := ⟨_, rfl⟩
  have HH := Lib.hid (And.intro hnn (And.intro (show m = d.ss.length by omega) (And.intro hmm (And.intro hL (And.intro hW (And.intro hV hE))))))
  rw [← hnn, ← hmm]
  have hnb : n ≤ 140737488355328 := by omega
  have hmb : m ≤ 140737488355328 := by omega
  have r0 := heap_alloc_new w (.cells #[.slice aw n cw, .slice at_ m cs] TD)
  have f0 := fp_alloc w (.cells #[.slice aw n cw, .slice at_ m cs] TD)
  have K0 := Lib.hid (Kp.and (Kp.row r0) (Kp.fp f0))
  have hfa := Lib.hid f0
  clear hv hn hm hnn hmm hL hml hW hV hE r0 f0
  obtain ⟨p0, p1⟩ := boxP2 K0.out.now.1
  go_enter Try.func6, Try.ntmps6
  go_wp2_with fail
  generalize (World.alloc w _) = W0 at *
  go_loopw [3, 4] (fun x i wr => ∃ k : Nat, k ≤ n ∧ i = .int .i64 k ∧ ∃ N : Int, x = .int .i64 N ∧ (0 ≤ N ∧ N ≤ 422212465095680) ∧ Hid (Fp Non W0 wr ∧ Ga d N k 0)) (fun _ i _ => n - (RowKit.intOf i).toNat)
  case atStart => exact ⟨0, Nat.zero_le _, rfl, (n : Int) + m, by go_num, by omega, ⟨Fp.refl _ _, by rw [HH.out.1, HH.out.2.1]; exact Int.le_refl _, fun j _ h => absurd h (Nat.not_lt_zero j), fun j _ h => absurd h (Nat.not_lt_zero j)⟩⟩
  case round =>
    clear p0 p1
    obtain ⟨k, hk, rfl, N, rfl, hN, hR⟩ := hrel
    rename_i wr _
    have HK := Lib.hid (K0.out.later hR.out.1)
    obtain ⟨p0, p1⟩ := boxP2 HK.out.now.1
    by_cases hlt : k < n ∧ N < 3000
    · obtain ⟨hlt, hN5⟩ := hlt
      have hkl : k < d.ws.length := by rw [← HH.out.1]; exact hlt
      have q3 : ((k : Int) < (n : Int)) = True := eq_true (by omega)
      have q4 : (k < n) = True := eq_true hlt
      have q5 : (N < 3000) = True := eq_true hN5
      obtain ⟨g, o, cap', e, _, _, _, hcell⟩ := HH.out.2.2.2.2.1.at (by omega)
      injection e with e1 e2 e3
      subst e1 e3
      have hnd := (hcell k hkl).keep HK.out.now.2 (fun h => h)
      have hnx := hR.out.2.wt hkl
      have HNX := Lib.hid hnx
      have HL := Lib.hid (And.intro hlt hN5)
      clear hcell hnx hlt hN5
      generalize d.ws[k] = x at *
      clear hkl
      have c2 := hnd.c2
      unfold strV at c2
      have HB := Lib.hid (min3 x.p.length)
      clear hnd
      go_wp2_with fail
      have hb := HB.out
      have hj := HL.out
      refine ⟨⟨k + 1, by omega, by go_num, _, rfl, ⟨by omega, by omega⟩, hR.out.1, HNX.out⟩, ?_⟩
      simp [RowKit.intOf]; omega
    · by_cases hlt2 : k < n
      · have hN6 : ¬ N < 3000 := fun h => hlt ⟨hlt2, h⟩
        have q3 : ((k : Int) < (n : Int)) = True := eq_true (by omega)
        have q5 : (N < 3000) = False := eq_false hN6
        have hG : N < 3000 → Ga d N n 0 := fun h => absurd h hN6
        clear hlt hlt2 hN6
        clear p0 p1
        have HS := Lib.hid (And.intro hR.out.1 hG)
        clear hG
        obtain ⟨p0, p1⟩ := boxP2 HK.out.now.1
        go_wp2_with fail
        go_loopw [3, 5] (fun x i w2 => ∃ k : Nat, k ≤ m ∧ i = .int .i64 k ∧ ∃ N : Int, x = .int .i64 N ∧ (0 ≤ N ∧ N ≤ 422212465095680) ∧ Hid (Fp Non W0 w2 ∧ (N < 3000 → Ga d N n k))) (fun _ i _ => m - (RowKit.intOf i).toNat)
        case atStart => exact ⟨0, Nat.zero_le _, rfl, N, rfl, hN, HS.out⟩
        case round =>
          clear p0 p1 HK HS hR hN hk
          obtain ⟨k, hk, rfl, N, rfl, hN, hR⟩ := hrel
          rename_i w2 _
          have HK := Lib.hid (K0.out.later hR.out.1)
          obtain ⟨p0, p1⟩ := boxP2 HK.out.now.1
          by_cases hlt : k < m ∧ N < 3000
          · obtain ⟨hlt, hN5⟩ := hlt
            have hG := hR.out.2 hN5
            have hkl : k < L.length := by rw [← HH.out.2.2.1]; exact hlt
            have r3 : ((k : Int) < (m : Int)) = True := eq_true (by omega)
            have r4 : (k < m) = True := eq_true hlt
            have r5 : (N < 3000) = True := eq_true hN5
            obtain ⟨g, o, cap', e, _, _, _, hcell⟩ := HH.out.2.2.2.2.2.1.at (by omega)
            injection e with e1 e2 e3
            subst e1 e3
            have hx := HH.out.2.2.2.2.2.2 _ (List.getElem_mem hkl)
            have hxs : d.ss[k]'(by rw [← HH.out.2.1]; exact hlt) = L[k].s := by
              have h := HH.out.2.2.2.1
              simp only [← h, List.getElem_map]
            have hse := fun N (hG : Ga d N n k) g => hG.se (by rw [← HH.out.2.1]; exact hlt) g
            rw [hxs] at hse
            have HND := Lib.hid (hcell k hkl)
            have HXE := Lib.hid hx
            have HSE := Lib.hid hse
            have HG := Lib.hid hG
            have HLT := Lib.hid hlt
            clear hcell hlt hx hse hG hxs
            generalize L[k] = x at *
            obtain ⟨⟨xs, xk, xe⟩, xa, xc⟩ := x
            unfold Sv.ev at HXE
            simp only at HXE
            obtain ⟨xl, hxl⟩ : ∃ n, n = xe.length := ⟨_, rfl⟩
            rw [← hxl] at HXE
            have HXL := Lib.hid hxl
            have hc2 := (HND.out.keep HK.out.now.2 (fun h => h)).c2
            unfold Sv.ev at hc2
            simp only at hc2
            rw [← hxl] at hc2
            have HS2 := Lib.hid (And.intro hR.out.1 (fun _ : N < 3000 => And.intro HG.out (Gi.start (s := ⟨xs, xk, xe⟩) hN.1)))
            clear hkl hxl hN5
            go_wp2_with fail
            go_loopw [3, 6] (fun x i w3 => ∃ j : Nat, j ≤ xl ∧ i = .int .i64 j ∧ ∃ N : Int, x = .int .i64 N ∧ (0 ≤ N ∧ N ≤ 422212465095680) ∧ Hid (Fp Non W0 w3 ∧ (N < 3000 → Ga d N n k ∧ Gi ⟨xs, xk, xe⟩ N j))) (fun _ i _ => xl - (RowKit.intOf i).toNat)
            case atStart => exact ⟨0, Nat.zero_le _, rfl, N, rfl, hN, HS2.out⟩
            case round =>
              clear p0 p1 HK hR hN hc2 HS2 HG r5
              obtain ⟨j, hj, rfl, N, rfl, hN, hR⟩ := hrel
              rename_i w3 _
              have HK := Lib.hid (K0.out.later hR.out.1)
              obtain ⟨p0, p1⟩ := boxP2 HK.out.now.1
              have hc2 := (HND.out.keep HK.out.now.2 (fun h => h)).c2
              unfold Sv.ev at hc2
              simp only at hc2
              rw [← HXL.out] at hc2
              by_cases hlt : j < xl ∧ N < 3000
              · obtain ⟨hlt, hN5⟩ := hlt
                have hG := hR.out.2 hN5
                have hjl : j < xe.length := by rw [← HXL.out]; exact hlt
                have s3 : ((j : Int) < (xl : Int)) = True := eq_true (by omega)
                have s4 : (j < xl) = True := eq_true hlt
                have s5 : (N < 3000) = True := eq_true hN5
                obtain ⟨g2, o2, cap2, e, _, _, _, hcell⟩ := (show NsE w (.slice xa xe.length xc) xe from by rw [← HXL.out]; exact HXE.out).at (by omega)
                injection e with e1 e2 e3
                subst e1 e3
                have hnd := (hcell j hjl).keep HK.out.now.2 (fun h => h)
                have hnx := hG.2.ev hjl
                have hjN := hG.2.lo
                have HNX := Lib.hid (And.intro hG.1 hnx)
                have HLL := Lib.hid (And.intro hlt hN5)
                simp only at HNX
                clear hcell hnx hlt hN5 hG e2
                generalize xe[j] = y at *
                clear hjl
                have y2 := hnd.c2
                unfold strV at y2
                have HB := Lib.hid (min3 y.p.length)
                clear hnd
                go_wp2_with fail
                have hb := HB.out
                have hjj := HLL.out
                refine ⟨⟨j + 1, by omega, by go_num, _, rfl, ⟨by omega, by omega⟩, hR.out.1, fun _ => ⟨HNX.out.1.up (by omega), HNX.out.2⟩⟩, ?_⟩
                simp [RowKit.intOf]; omega
              · have hjN : N < 3000 → (j : Int) ≤ N := fun h => (hR.out.2 h).2.lo
                by_cases hlt2 : j < xl
                · have s3 : ((j : Int) < (xl : Int)) = True := eq_true (by omega)
                  have s4 : (j < xl) = True := eq_true hlt2
                  have hN6 : ¬ N < 3000 := fun h => hlt ⟨hlt2, h⟩
                  have s5 : (N < 3000) = False := eq_false hN6
                  have HN6 := Lib.hid hN6
                  clear hlt hlt2 hN6 hjN
                  go_wp2_with fail
                  have hkn := HLT.out
                  refine ⟨⟨k + 1, by omega, by go_num, N, rfl, hN, hR.out.1, fun h => absurd h HN6.out⟩, ?_⟩
                  simp [RowKit.intOf]; omega
                · have hje : j = xl := by omega
                  subst hje
                  have s3 : ((j : Int) < (j : Int)) = False := eq_false (by omega)
                  have HSE2 := Lib.hid (fun h : N < 3000 => (hR.out.2 h))
                  clear hlt hlt2 hjN
                  go_wp2_with fail
                  have hkn := HLT.out
                  refine ⟨⟨k + 1, by omega, by go_num, N, rfl, hN, hR.out.1, fun h => ?_⟩, ?_⟩
                  · exact HSE.out N (HSE2.out h).1 (by have g := (HSE2.out h).2; rw [HXL.out] at g; exact g)
                  · simp [RowKit.intOf]; omega
          · by_cases hN5 : N < 3000
            · have hke : k = m := by
                have : ¬ k < m := fun h => hlt ⟨h, hN5⟩
                omega
              subst hke
              have r3 : ((k : Int) < (k : Int)) = False := eq_false (by omega)
              have r6 : ((3000 : Int) ≤ N) = False := eq_false (by omega)
              have hfw := hR.out.2 hN5
              rw [HH.out.1, HH.out.2.1] at hfw
              have HFW := Lib.hid (And.intro (hfw.few hN5) (HK.out.now.2))
              clear hlt hfw hN5 hk
              go_wp2
              go_ret
              exact ⟨false, rfl, fun _ => HFW.out.1, HFW.out.2⟩
            · have r5 : (N < 3000) = False := eq_false hN5
              have r6 : ((3000 : Int) ≤ N) = True := eq_true (by omega)
              have HFW := Lib.hid (HK.out.now.2)
              by_cases hlt2 : k < m
              · have r3 : ((k : Int) < (m : Int)) = True := eq_true (by omega)
                clear hlt hlt2 hN5
                go_wp2
                go_ret
                exact ⟨true, rfl, fun h => by simp at h, HFW.out⟩
              · have r3 : ((k : Int) < (m : Int)) = False := eq_false (by omega)
                clear hlt hlt2 hN5
                go_wp2
                go_ret
                exact ⟨true, rfl, fun h => by simp at h, HFW.out⟩
      · have hke : k = n := by omega
        subst hke
        have q3 : ((k : Int) < (k : Int)) = False := eq_false (by omega)
        have hG : N < 3000 → Ga d N k 0 := fun _ => hR.out.2
        clear hlt hlt2
        clear p0 p1
        obtain ⟨n0, hn0⟩ : ∃ n0, n0 = k := ⟨_, rfl⟩
        rw [← hn0] at hG HH
        clear hn0
        have HS := Lib.hid (And.intro hR.out.1 hG)
        clear hG
        obtain ⟨p0, p1⟩ := boxP2 HK.out.now.1
        go_wp2_with fail
        go_loopw [3, 5] (fun x i w2 => ∃ k : Nat, k ≤ m ∧ i = .int .i64 k ∧ ∃ N : Int, x = .int .i64 N ∧ (0 ≤ N ∧ N ≤ 422212465095680) ∧ Hid (Fp Non W0 w2 ∧ (N < 3000 → Ga d N n0 k))) (fun _ i _ => m - (RowKit.intOf i).toNat)
        case atStart => exact ⟨0, Nat.zero_le _, rfl, N, rfl, hN, HS.out⟩
        case round =>
          clear p0 p1 HK HS hR hN hk
          obtain ⟨k, hk, rfl, N, rfl, hN, hR⟩ := hrel
          rename_i w2 _
          have HK := Lib.hid (K0.out.later hR.out.1)
          obtain ⟨p0, p1⟩ := boxP2 HK.out.now.1
          by_cases hlt : k < m ∧ N < 3000
          · obtain ⟨hlt, hN5⟩ := hlt
            have hG := hR.out.2 hN5
            have hkl : k < L.length := by rw [← HH.out.2.2.1]; exact hlt
            have r3 : ((k : Int) < (m : Int)) = True := eq_true (by omega)
            have r4 : (k < m) = True := eq_true hlt
            have r5 : (N < 3000) = True := eq_true hN5
            obtain ⟨g, o, cap', e, _, _, _, hcell⟩ := HH.out.2.2.2.2.2.1.at (by omega)
            injection e with e1 e2 e3
            subst e1 e3
            have hx := HH.out.2.2.2.2.2.2 _ (List.getElem_mem hkl)
            have hxs : d.ss[k]'(by rw [← HH.out.2.1]; exact hlt) = L[k].s := by
              have h := HH.out.2.2.2.1
              simp only [← h, List.getElem_map]
            have hse := fun N (hG : Ga d N n0 k) g => hG.se (by rw [← HH.out.2.1]; exact hlt) g
            rw [hxs] at hse
            have HND := Lib.hid (hcell k hkl)
            have HXE := Lib.hid hx
            have HSE := Lib.hid hse
            have HG := Lib.hid hG
            have HLT := Lib.hid hlt
            clear hcell hlt hx hse hG hxs
            generalize L[k] = x at *
            obtain ⟨⟨xs, xk, xe⟩, xa, xc⟩ := x
            unfold Sv.ev at HXE
            simp only at HXE
            obtain ⟨xl, hxl⟩ : ∃ n, n = xe.length := ⟨_, rfl⟩
            rw [← hxl] at HXE
            have HXL := Lib.hid hxl
            have hc2 := (HND.out.keep HK.out.now.2 (fun h => h)).c2
            unfold Sv.ev at hc2
            simp only at hc2
            rw [← hxl] at hc2
            have HS2 := Lib.hid (And.intro hR.out.1 (fun _ : N < 3000 => And.intro HG.out (Gi.start (s := ⟨xs, xk, xe⟩) hN.1)))
            clear hkl hxl hN5
            go_wp2_with fail
            go_loopw [3, 6] (fun x i w3 => ∃ j : Nat, j ≤ xl ∧ i = .int .i64 j ∧ ∃ N : Int, x = .int .i64 N ∧ (0 ≤ N ∧ N ≤ 422212465095680) ∧ Hid (Fp Non W0 w3 ∧ (N < 3000 → Ga d N n0 k ∧ Gi ⟨xs, xk, xe⟩ N j))) (fun _ i _ => xl - (RowKit.intOf i).toNat)
            case atStart => exact ⟨0, Nat.zero_le _, rfl, N, rfl, hN, HS2.out⟩
            case round =>
              clear p0 p1 HK hR hN hc2 HS2 HG r5
              obtain ⟨j, hj, rfl, N, rfl, hN, hR⟩ := hrel
              rename_i w3 _
              have HK := Lib.hid (K0.out.later hR.out.1)
              obtain ⟨p0, p1⟩ := boxP2 HK.out.now.1
              have hc2 := (HND.out.keep HK.out.now.2 (fun h => h)).c2
              unfold Sv.ev at hc2
              simp only at hc2
              rw [← HXL.out] at hc2
              by_cases hlt : j < xl ∧ N < 3000
              · obtain ⟨hlt, hN5⟩ := hlt
                have hG := hR.out.2 hN5
                have hjl : j < xe.length := by rw [← HXL.out]; exact hlt
                have s3 : ((j : Int) < (xl : Int)) = True := eq_true (by omega)
                have s4 : (j < xl) = True := eq_true hlt
                have s5 : (N < 3000) = True := eq_true hN5
                obtain ⟨g2, o2, cap2, e, _, _, _, hcell⟩ := (show NsE w (.slice xa xe.length xc) xe from by rw [← HXL.out]; exact HXE.out).at (by omega)
                injection e with e1 e2 e3
                subst e1 e3
                have hnd := (hcell j hjl).keep HK.out.now.2 (fun h => h)
                have hnx := hG.2.ev hjl
                have hjN := hG.2.lo
                have HNX := Lib.hid (And.intro hG.1 hnx)
                have HLL := Lib.hid (And.intro hlt hN5)
                simp only at HNX
                clear hcell hnx hlt hN5 hG e2
                generalize xe[j] = y at *
                clear hjl
                have y2 := hnd.c2
                unfold strV at y2
                have HB := Lib.hid (min3 y.p.length)
                clear hnd
                go_wp2_with fail
                have hb := HB.out
                have hjj := HLL.out
                refine ⟨⟨j + 1, by omega, by go_num, _, rfl, ⟨by omega, by omega⟩, hR.out.1, fun _ => ⟨HNX.out.1.up (by omega), HNX.out.2⟩⟩, ?_⟩
                simp [RowKit.intOf]; omega
              · have hjN : N < 3000 → (j : Int) ≤ N := fun h => (hR.out.2 h).2.lo
                by_cases hlt2 : j < xl
                · have s3 : ((j : Int) < (xl : Int)) = True := eq_true (by omega)
                  have s4 : (j < xl) = True := eq_true hlt2
                  have hN6 : ¬ N < 3000 := fun h => hlt ⟨hlt2, h⟩
                  have s5 : (N < 3000) = False := eq_false hN6
                  have HN6 := Lib.hid hN6
                  clear hlt hlt2 hN6 hjN
                  go_wp2_with fail
                  have hkn := HLT.out
                  refine ⟨⟨k + 1, by omega, by go_num, N, rfl, hN, hR.out.1, fun h => absurd h HN6.out⟩, ?_⟩
                  simp [RowKit.intOf]; omega
                · have hje : j = xl := by omega
                  subst hje
                  have s3 : ((j : Int) < (j : Int)) = False := eq_false (by omega)
                  have HSE2 := Lib.hid (fun h : N < 3000 => (hR.out.2 h))
                  clear hlt hlt2 hjN
                  go_wp2_with fail
                  have hkn := HLT.out
                  refine ⟨⟨k + 1, by omega, by go_num, N, rfl, hN, hR.out.1, fun h => ?_⟩, ?_⟩
                  · exact HSE.out N (HSE2.out h).1 (by have g := (HSE2.out h).2; rw [HXL.out] at g; exact g)
                  · simp [RowKit.intOf]; omega
          · by_cases hN5 : N < 3000
            · have hke : k = m := by
                have : ¬ k < m := fun h => hlt ⟨h, hN5⟩
                omega
              subst hke
              have r3 : ((k : Int) < (k : Int)) = False := eq_false (by omega)
              have r6 : ((3000 : Int) ≤ N) = False := eq_false (by omega)
              have hfw := hR.out.2 hN5
              rw [HH.out.1, HH.out.2.1] at hfw
              have HFW := Lib.hid (And.intro (hfw.few hN5) (HK.out.now.2))
              clear hlt hfw hN5 hk
              go_wp2
              go_ret
              exact ⟨false, rfl, fun _ => HFW.out.1, HFW.out.2⟩
            · have r5 : (N < 3000) = False := eq_false hN5
              have r6 : ((3000 : Int) ≤ N) = True := eq_true (by omega)
              have HFW := Lib.hid (HK.out.now.2)
              by_cases hlt2 : k < m
              · have r3 : ((k : Int) < (m : Int)) = True := eq_true (by omega)
                clear hlt hlt2 hN5
                go_wp2
                go_ret
                exact ⟨true, rfl, fun h => by simp at h, HFW.out⟩
              · have r3 : ((k : Int) < (m : Int)) = False := eq_false (by omega)
                clear hlt hlt2 hN5
                go_wp2
                go_ret
                exact ⟨true, rfl, fun h => by simp at h, HFW.out⟩
end Go.Proofs.Ytjdpbieifcjmiaa
