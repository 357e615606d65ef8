/- rightSession. -/
import Derived.Test.YtjdpbieifcjmiaaYc
namespace Go.Proofs.Ytjdpbieifcjmiaa
set_option maxRecDepth 20000
set_option linter.unusedVariables false
set_option linter.unusedSimpArgs false
open Go.RowKit Pm

def EvsOk (ct : Int) (evs : List Ev) : Prop := ∀ i (h : i < evs.length), rEv (ct - evs.length + 1 + i) evs[i] = true
set_option maxHeartbeats 2000000 in
theorem rightSession_c (x : Sv) (w : World) (hx : NsE w x.ev x.s.evs) (hl : x.s.evs.length ≤ 30000) (hp : ∀ e ∈ x.s.evs, e.p.length ≤ 1000000) :
    Calls Try.prog 22 #[svV x] w fun e w' => e = .returned (.bool (rSe x.s)) ∧ Fp Non w w' := by
  obtain ⟨⟨nm, ct, evs⟩, a, c⟩ := x
  have h1 := fun w => isNum_c nm w
  unfold svV Sv.ev
  simp only at hx hl hp ⊢
  obtain ⟨n, hn⟩ : ∃ n, n = evs.length := ⟨_, rfl⟩
  have hri : rSe ⟨nm, ct, evs⟩ = true ↔ isN nm = true ∧ (0 ≤ ct ∧ ct ≤ mxN ∧ n ≤ 8 ∧ (n : Int) ≤ ct) ∧ EvsOk ct evs := by rw [hn]; exact rSe_iff _
  unfold Sv.ev at hx
  simp only at hx
  rw [← hn] at hx ⊢
  rw [← hn] at hl
  have hf0 := fp_alloc w (.cells #[.int .i64 nm, .int .i64 ct, .slice a n c] TV)
  have r0 := heap_alloc_new w (.cells #[.int .i64 nm, .int .i64 ct, .slice a n c] TV)
  have K0 := Lib.hid (Kp.and (Kp.fp hf0) (Kp.row r0))
  obtain ⟨b1, hb1⟩ : ∃ b, isN nm = b := ⟨_, rfl⟩
  rw [hb1] at h1 hri
  have H1 := Lib.hid h1
  have HX := Lib.hid (And.intro hx (And.intro hn hp))
  obtain ⟨br, hbr⟩ : ∃ b, rSe ⟨nm, ct, evs⟩ = b := ⟨_, rfl⟩
  rw [hbr] at hri ⊢
  have hno : ¬ (b1 = true ∧ (0 ≤ ct ∧ ct ≤ mxN ∧ n ≤ 8 ∧ (n : Int) ≤ ct)) → br = false := fun h => by
    cases br with
    | false => rfl
    | true => exact absurd ((hri.1 rfl)) (fun k => h ⟨k.1, k.2.1⟩)
  have HR := Lib.hid (And.intro hri hno)
  unfold mxN at hno
  clear h1 hx hn hp hb1 hf0 r0 hri hbr
  go_enter Try.func22, Try.ntmps22
  go_wp2_with fail
  refine (H1.out _).mono ?_
  rintro e w1 ⟨rfl, rfl⟩
  cases b1 with
  | false =>
    obtain rfl := hno (fun h => by simp at h)
    clear hno
    go_wp2
    go_ret
    exact ⟨rfl, K0.out.now.1⟩
  | true =>
    by_cases hq : 0 ≤ ct ∧ ct ≤ 281474976710656 ∧ n ≤ 8 ∧ (n : Int) ≤ ct
    · clear hno
      have HQ := Lib.hid hq
      obtain ⟨q1, q2, q3, q4⟩ := hq
      have t1 : (ct < 0) = False := eq_false (by omega)
      have t2 : (281474976710656 < ct) = False := eq_false (by omega)
      have t3 : ((8 : Int) < (n : Int)) = False := eq_false (by omega)
      have t4 : (ct - (n : Int) < 0) = False := eq_false (by omega)
      go_wp2_with fail
      have HB := Lib.hid (show EvsOk ct evs → br = true from fun h => HR.out.1.2 ⟨by first | rfl | trivial, HQ.out, h⟩)
      have HC := Lib.hid (show ∀ k (h : k < evs.length), ¬ rEv (ct - n + 1 + k) evs[k] = true → br = false from fun k h hh => by
        cases br with
        | false => rfl
        | true =>
          have := (HR.out.1.1 rfl).2.2 k h
          rw [← HX.out.2.1] at this
          exact absurd this hh)
      clear HR t1 t2 t3 t4
      go_loopw [37] (fun i wr => ∃ k : Nat, k ≤ n ∧ i = .int .i64 k ∧ Hid (Kp (fun W' => Fp Non w W' ∧ W'.heap[w.heap.size]? = some (.cells #[.int .i64 nm, .int .i64 ct, .slice a n c] TV (0, 0))) wr ∧ ∀ j (hj : j < evs.length), j < k → rEv (ct - n + 1 + j) evs[j] = true)) (fun i _ => n - (RowKit.intOf i).toNat)
      case atStart => exact ⟨0, Nat.zero_le _, rfl, K0.out, fun j _ h => absurd h (Nat.not_lt_zero j)⟩
      case round =>
        obtain ⟨k, hk, rfl, hR⟩ := hrel
        rename_i wr _
        by_cases hlt : k < n
        · have hkl : k < evs.length := by rw [← HX.out.2.1]; exact hlt
          obtain ⟨g, o, cap', e, _, _, hgl, hcell⟩ := HX.out.1.at (by omega)
          injection e with e1 e2 e3
          subst e1 e3
          clear e2
          have hnd := (hcell k hkl).keep hR.out.1.now.1 (fun h => h)
          have hbad := HC.out k hkl
          have hgood : rEv (ct - n + 1 + k) evs[k] = true → ∀ j (hj : j < evs.length), j < k + 1 → rEv (ct - n + 1 + j) evs[j] = true := fun h j hj hjk => by
            rcases Nat.lt_or_eq_of_le (show j ≤ k by omega) with e | e
            · exact hR.out.2 j hj e
            · subst e; exact h
          have hpl := HX.out.2.2 _ (List.getElem_mem hkl)
          have HL := Lib.hid (And.intro hkl hlt)
          clear hcell
          generalize evs[k] = x at *
          obtain ⟨xn, xk, xp, xw⟩ := x
          have c0 := hnd.c0; have c1 := hnd.c1; have c2 := hnd.c2; have c3 := hnd.c3
          unfold strV at c2
          simp only at c0 c1 c2 c3 hpl
          have hf1 := fp_alloc wr (.cells #[.int .i64 xn, .int .i64 xk, .string (B xp), .int .i64 xw] TE)
          have h2 := fun w => Right_g xp w (sz_of hpl (by omega))
          have h3 := fun w => isNum_c xw w
          have hre : rEv (ct - n + 1 + k) ⟨xn, xk, xp, xw⟩ = (decide (xn = ct - n + 1 + k ∧ 1 ≤ xk ∧ xk ≤ 4) && (split xp).isSome && isN xw) := rfl
          rw [hre] at hbad hgood
          generalize (split xp).isSome = b2 at *
          generalize isN xw = b3 at *
          have H2 := Lib.hid h2
          have H3 := Lib.hid h3
          have HG := Lib.hid (And.intro hbad hgood)
          have K1 := Lib.hid (Kp.and (Kp.row (heap_alloc_new wr (.cells #[.int .i64 xn, .int .i64 xk, .string (B xp), .int .i64 xw] TE))) (hR.out.1.later hf1))
          have KA := Lib.hid (fun o => (hR.out.1.later (fp_alloc wr o)).now.1)
          have q5 : ((k : Int) < (n : Int)) = True := eq_true (by omega)
          have q6 : (k < n) = True := eq_true hlt
          clear hnd hkl hlt hpl hbad hgood hre hf1 h2 h3 HC
          by_cases hq : xn = ct - n + 1 + k ∧ 1 ≤ xk ∧ xk ≤ 4
          · obtain rfl := hq.1
            have u2 : (xk < 1) = False := eq_false (by omega)
            have u3 : (4 < xk) = False := eq_false (by omega)
            have hd : decide (ct - (n : Int) + 1 + k = ct - n + 1 + k ∧ 1 ≤ xk ∧ xk ≤ 4) = true := decide_eq_true hq
            rw [hd] at HG
            clear hd hq
            go_wp2_with fail
            refine (H2.out _).mono ?_
            rintro e w2 ⟨rfl, hf⟩
            have K2 := Lib.hid (K1.out.later hf.fp)
            clear hf
            cases b2 with
            | false =>
              obtain rfl := HG.out.1 (by simp)
              go_wp2
              go_ret
              exact ⟨rfl, K2.out.now.2.1⟩
            | true =>
              obtain ⟨_, _, _, d3⟩ := boxP4 K2.out.now.1
              go_wp2_with fail
              refine (H3.out _).mono ?_
              rintro e w3 ⟨rfl, hw3⟩
              obtain rfl := hw3.symm
              clear hw3
              cases b3 with
              | false =>
                obtain rfl := HG.out.1 (by simp)
                go_wp2
                go_ret
                exact ⟨rfl, K2.out.now.2.1⟩
              | true =>
                have hM : Hid (Kp (fun W' => Fp Non w W' ∧ W'.heap[w.heap.size]? = some (.cells #[.int .i64 nm, .int .i64 ct, .slice (some ⟨g, o, none⟩) n c] TV (0, 0))) w2 ∧ ∀ j (hj : j < evs.length), j < k + 1 → rEv (ct - n + 1 + j) evs[j] = true) := ⟨fun W f => (K2.out W f).2, HG.out.2 rfl⟩
                have hkn := HL.out.2
                clear HG d3
                go_wp2
                go_roundw
                case rel => exact ⟨k + 1, by omega, by go_num, hM⟩
                case measure => simp [RowKit.intOf]; omega
          · have hd : decide (xn = ct - n + 1 + k ∧ 1 ≤ xk ∧ xk ≤ 4) = false := decide_eq_false hq
            rw [hd] at HG
            obtain rfl := HG.out.1 (by simp)
            have HQ2 := Lib.hid hq
            clear hd hq
            go_wp2_with fail
            all_goals first
              | (go_ret; exact ⟨rfl, KA.out _⟩)
              | (exfalso; apply HQ2.out; omega)
              | (exfalso; apply HQ2.out; refine ⟨?_, ?_, ?_⟩ <;> first | assumption | omega)
        · have hke : k = n := by omega
          subst hke
          have q5 : ((k : Int) < (k : Int)) = False := eq_false (by omega)
          obtain rfl := HB.out (fun i hi => by rw [← HX.out.2.1]; exact hR.out.2 i hi (by rw [HX.out.2.1]; exact hi))
          clear hlt hk
          go_wp2
          go_ret
          exact ⟨rfl, hR.out.1.now.1⟩
    · obtain rfl := hno (fun h => hq h.2)
      clear hno
      have HQ := Lib.hid hq
      clear hq
      go_wp2_with fail
      all_goals first
        | (go_ret; exact ⟨rfl, K0.out.now.1⟩)
        | (exfalso; apply HQ.out; omega)
        | go_goals
end Go.Proofs.Ytjdpbieifcjmiaa
