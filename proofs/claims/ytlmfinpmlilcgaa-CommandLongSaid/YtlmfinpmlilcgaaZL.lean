/- Texts of this proof, merged. -/
import Derived.Test.YtlmfinpmlilcgaaZK
set_option linter.unusedVariables false
set_option linter.unusedSimpArgs false
/- Prefixes that are kept elsewhere; a command: may they be? -/
namespace Go.Proofs.Ytlmfinpmlilcgaa
set_option maxRecDepth 20000
set_option linter.unusedVariables false
set_option linter.unusedSimpArgs false
open Go.RowKit Pm

def ChkGo (pre : Bs) (l : List Bs) (k : Nat) (h : k < l.length) : Prop := l[k] ≠ pre ∧ inB l[k] pre = true ∧ (∀ (_ : 0 < k) (h1 : k - 1 < l.length), lt l[k - 1] l[k] = true)

set_option maxHeartbeats 8000000 in
theorem areIn_c (pre : Bs) (v : Value) (l : List Bs) (w : World) (hv : Tx w v l) (hp : pre.length ≤ 1000000) (hs : ∀ x ∈ l, x.length ≤ 1000000) :
    Calls Try.prog 21 #[.string (B pre), v] w fun e w' => e = .returned (.bool (goB pre l)) ∧ Fp Non w w' := by
  obtain ⟨ao, cap, rfl⟩ := hv.shape
  obtain ⟨n, hnn⟩ : ∃ n, n = l.length := ⟨_, rfl⟩
  obtain ⟨r, hr⟩ : ∃ r, goB pre l = r := ⟨_, rfl⟩
  by_cases h16 : 32 < n
  · have t0 : ((32 : Int) < (n : Int)) = True := eq_true (by omega)
    have t1 : (32 < n) = True := eq_true h16
    have HN := Lib.hid (show r = false from by rw [← hr]; exact goB_false (fun h => by have := h.1; omega))
    rw [hr, ← hnn]
    clear hv hnn hr h16 hs
    go_enter Try.func21, Try.ntmps21
    go_wp2
    go_ret
    exact ⟨by rw [HN.out]; rfl, Fp.refl _ _⟩
  have t0 : ((32 : Int) < (n : Int)) = False := eq_false (by omega)
  have t1 : (32 < n) = False := eq_false h16
  have hall : (∀ k (h : k < l.length), ChkGo pre l k h) → r = true := fun h => by
    rw [← hr]; exact goB_true ⟨by omega, h⟩
  have hnone : ∀ k (h : k < l.length), ¬ ChkGo pre l k h → r = false := fun k h hn => by
    rw [← hr]; exact goB_false (fun c => hn (c.2 k h))
  have HX := Lib.hid (And.intro hnn (And.intro hv (And.intro hall (And.intro hnone (And.intro hs hp)))))
  have hnb : n ≤ 32 := by omega
  rw [hr, ← hnn]
  clear hv hnn hr hall hnone h16 hs hp
  go_enter Try.func21, Try.ntmps21
  go_wp2_with fail
  go_loopw [12] (fun i wr => ∃ k : Nat, k ≤ n ∧ i = .int .i64 k ∧ Hid (Fp Non w wr ∧ ∀ j (h : j < l.length), j < k → ChkGo pre l j h)) (fun i _ => n - (RowKit.intOf i).toNat)
  case atStart => exact ⟨0, Nat.zero_le _, rfl, Fp.refl _ _, fun j _ h => absurd h (Nat.not_lt_zero j)⟩
  case round =>
    obtain ⟨k, hk, rfl, hR⟩ := hrel
    rename_i wr _
    by_cases hlt : k < n
    · have hkl : k < l.length := by rw [← HX.out.1]; exact hlt
      obtain ⟨g, o, cap', e, hcell⟩ := HX.out.2.1.at (by omega)
      injection e with e1 e2 e3
      subst e1 e3
      have c0 := hR.out.1.cell (hcell k hkl) (fun h => h)
      have hprev : ∀ h0 : 0 < k, ∀ W, Fp Non wr W → ∃ z, W.cell? ⟨g, o + (k - 1), none⟩ = some (.string (B z)) ∧ ∀ h1 : k - 1 < l.length, z = l[k - 1] := fun h0 W f => by
        have h1 : k - 1 < l.length := by omega
        exact ⟨l[k - 1], (hR.out.1.then f).cell (hcell (k - 1) h1) (fun h => h), fun _ => rfl⟩
      have hstep : ChkGo pre l k hkl → ∀ j (h : j < l.length), j < k + 1 → ChkGo pre l j h := fun h j hj hjk => by
        rcases Nat.lt_or_eq_of_le (show j ≤ k by omega) with e | e
        · exact hR.out.2 j hj e
        · subst e; exact h
      have hno := HX.out.2.2.2.1 k hkl
      have hxp := HX.out.2.2.2.2.1 _ (List.getElem_mem hkl)
      have hk1 : k - 1 < l.length := by omega
      unfold ChkGo at hno
      unfold ChkGo at hstep
      have HC0 := Lib.hid (And.intro hstep (And.intro hno hprev))
      clear hstep hno hprev hcell
      generalize l[k] = x at *
      have hic := fun w => In_c x pre w (by omega) (by have := HX.out.2.2.2.2.2; omega)
      obtain ⟨ip, hip⟩ : ∃ b, inB x pre = b := ⟨_, rfl⟩
      simp only [hip] at hic
      have q3 : ((k : Int) < (n : Int)) = True := eq_true (by omega)
      have q4 : (k < n) = True := eq_true hlt
      have HL := Lib.hid (And.intro hlt (And.intro hip hk1))
      have HI := Lib.hid hic
      clear hkl hlt hip hic hxp hk1
      by_cases h1 : x = pre
      · subst h1
        have HN := Lib.hid (HC0.out.2.1 (fun h => h.1 rfl))
        go_wp2
        go_ret
        exact ⟨by rw [HN.out]; rfl, hR.out.1⟩
      have s1 : (x == pre) = false := beq_eq_false_iff_ne.2 h1
      have s2 : (x = pre) = False := eq_false h1
      have H1 := Lib.hid h1
      clear h1
      cases ip with
      | false =>
        have HN := Lib.hid (HC0.out.2.1 (fun h => by have := h.2.1; rw [HL.out.2.1] at this; exact Bool.noConfusion this))
        go_wp2_with fail
        refine (HI.out _).mono ?_
        rintro e w1 ⟨rfl, hf⟩
        have HF1 := Lib.hid (hR.out.1.then (Fp.of_below hf))
        clear hf
        go_wp2
        go_ret
        exact ⟨by rw [HN.out]; rfl, HF1.out⟩
      | true =>
        rcases Nat.eq_zero_or_pos k with h0 | h0
        · subst h0
          simp only [Nat.add_zero] at c0
          have HN := Lib.hid (HC0.out.1 ⟨H1.out, HL.out.2.1, fun h => absurd h (Nat.lt_irrefl 0)⟩)
          have hkn := HL.out.1
          go_wp2_with fail
          refine (HI.out _).mono ?_
          rintro e w1 ⟨rfl, hf⟩
          have HF1 := Lib.hid (hR.out.1.then (Fp.of_below hf))
          clear hf
          go_wp2
          go_roundw
          case rel => exact ⟨1, by omega, rfl, HF1.out, HN.out⟩
          case measure => simp [RowKit.intOf]; omega
        · have p1 : ((0 : Int) < (k : Int)) = True := eq_true (by omega)
          have p2 : (0 < k) = True := eq_true h0
          have hkn := HL.out.1
          have p3 : ((k : Int) - 1 < (n : Int)) = True := eq_true (by omega)
          have p4 : ((0 : Int) ≤ (k : Int) - 1) = True := eq_true (by omega)
          have hsub : (k : Int) - 1 = ((k - 1 : Nat) : Int) := by omega
          go_wp2_with fail
          refine (HI.out _).mono ?_
          rintro e w1 ⟨rfl, hf⟩
          obtain ⟨z, hz, hzl⟩ := HC0.out.2.2 h0 w1 (Fp.of_below hf)
          have HF1 := Lib.hid (hR.out.1.then (Fp.of_below hf))
          have HZ := Lib.hid (hzl HL.out.2.2)
          have hk1n : k - 1 < n := by omega
          clear hf hzl
          obtain ⟨bb, hbb⟩ : ∃ b, (Op.bytesLess x z || x == z) = b := ⟨_, rfl⟩
          cases bb with
          | true =>
            have HN := Lib.hid (HC0.out.2.1 (fun h => by have h5 := h.2.2 h0 HL.out.2.2; rw [← HZ.out, notUp hbb] at h5; exact Bool.noConfusion h5))
            go_wp2
            go_ret
            exact ⟨by rw [HN.out]; rfl, HF1.out⟩
          | false =>
            have HN := Lib.hid (HC0.out.1 ⟨H1.out, HL.out.2.1, fun _ h1 => by rw [← HZ.out]; exact isUp hbb⟩)
            go_wp2
            go_roundw
            case rel => exact ⟨k + 1, by omega, by go_num, HF1.out, HN.out⟩
            case measure => simp [RowKit.intOf]; omega
    · have hke : k = n := by omega
      subst hke
      have q3 : ((k : Int) < (k : Int)) = False := eq_false (by omega)
      have HT := Lib.hid (HX.out.2.2.1 (fun j h => hR.out.2 j h (by rw [HX.out.1]; exact h)))
      clear hlt hk
      go_wp2
      go_ret
      exact ⟨by rw [HT.out]; rfl, hR.out.1⟩
end Go.Proofs.Ytlmfinpmlilcgaa

