/- Is it too much? -/
import Derived.Test.YtankfmlafmjaeaaGreatIu
namespace Go.Proofs.YtankfmlafmjaeaaGreat
set_option maxRecDepth 20000
open Go.RowKit Pm

set_option maxHeartbeats 6000000 in
theorem Great_c (lo : Nat) (v : Value) (l : List Oq) (w : World) (hl : Oqs w lo v l) :
    Calls Tryz.prog 5 #[v] w fun e w' => ∃ g : Bool, e = .returned (.bool g) ∧ (g = false → l.length ≤ 300) ∧ Fp Non w w' := by
  obtain ⟨ao, cap, rfl, h1, h2, h3⟩ := hl.ex
  unfold maxLen at h2
  have hlen : l.length ≤ 9223372036854775807 := by omega
  have HL := Lib.hid (And.intro hl (And.intro h3 h1)); clear hl h3 h1 h2
  go_enter Tryz.func5, Tryz.ntmps5
  go_wp2_with fail
  go_loopw [3, 4] (fun n i wr => ∃ k : Nat, k ≤ l.length ∧ i = .int .i64 k ∧ ∃ N : Int, n = .int .i64 N ∧ Hid (Fp Non w wr)) (fun _ i _ => l.length - (RowKit.intOf i).toNat)
  case atStart => exact ⟨0, by omega, rfl, _, rfl, Fp.refl _ _⟩
  case round =>
    obtain ⟨k, hk, rfl, N, rfl, hf⟩ := hrel
    rename_i wr _
    by_cases hkl : k < l.length
    · have g1 : ((k : Int) < (l.length : Int)) = True := eq_true (by omega)
      have g2 : (k < l.length) = True := eq_true hkl
      by_cases hN2 : N < 60000
      · have g3 : (N < 60000) = True := eq_true hN2
        rcases HL.out.2.1 with h0 | ⟨g, o, rfl, hg, hc⟩
        · have := HL.out.2.2; omega
        have hit := (hc k hkl).keep_ hf.out (fun _ h => h.elim) hg
        generalize l[k] = x at hit
        have c2 := hit.c1
        have c4 := hit.c3
        obtain ⟨bao, bcap, eb, _, _, _⟩ := hit.sb.ex
        obtain ⟨kao, kcap, ek, _, _, _⟩ := hit.sk.ex
        rw [eb] at c2
        rw [ek] at c4
        have q13 : wrap64 ((k : Int) + 1) = ((k + 1 : Nat) : Int) := by unfold wrap64; omega
        have HZ := Lib.hid (And.intro hkl (And.intro hk (And.intro hit (And.intro eb (And.intro ek q13)))))
        have HC := Lib.hid hc
        clear hkl hk hit eb ek hc hN2 hlen q13
        go_wp2_with fail
        go_quiet (fail)
        have q13 := HZ.out.2.2.2.2.2
        go_wp2
        go_roundw
        case rel => exact ⟨k + 1, HZ.out.1, congrArg (Value.int .i64) q13, _, rfl, hf.out.drewN _⟩
        case measure => have := HZ.out.1; rw [q13]; simp [RowKit.intOf]; omega
      · have g3 : (N < 60000) = False := eq_false hN2
        have g4 : (60000 ≤ N) = True := eq_true (by omega)
        clear hkl hk hN2 hlen
        go_wp2
        go_ret
        exact ⟨_, rfl, fun h => by simp at h, hf.out⟩
    · have g1 : ((k : Int) < (l.length : Int)) = False := eq_false (by omega)
      have g2 : (k < l.length) = False := eq_false hkl
      by_cases hN2 : 60000 ≤ N
      · have g4 : (60000 ≤ N) = True := eq_true hN2
        clear hkl hk hN2 hlen
        go_wp2
        go_ret
        exact ⟨_, rfl, fun h => by simp at h, hf.out⟩
      · have g4 : (60000 ≤ N) = False := eq_false hN2
        by_cases h300 : l.length ≤ 300
        · have g5 : ((300 : Int) < (l.length : Int)) = False := eq_false (by omega)
          have HZ := Lib.hid h300
          clear hkl hk hN2 hlen h300
          go_wp2
          go_ret
          exact ⟨_, rfl, fun _ => HZ.out, hf.out⟩
        · have g5 : ((300 : Int) < (l.length : Int)) = True := eq_true (by omega)
          clear hkl hk hN2 hlen h300
          go_wp2
          go_ret
          exact ⟨_, rfl, fun h => by simp at h, hf.out⟩
end Go.Proofs.YtankfmlafmjaeaaGreat
