/- Layer 1's laws, walked: PathNumbers. -/
import Derived.Test.YtcmhfofeaghjpaaDoorLb
namespace Go.Proofs.YtcmhfofeaghjpaaDoor
open Go.RowKit Pm

/-- strconv's table, where its variable lies among what was there when the call began. -/
structure Tab (w : World) : Prop where
  is : Lib.TabIs Tryd.prog w "internal/strconv.uint64pow10" .u64 Lib.pow10Tab
theorem gPow : Tryd.prog.globalNamed "internal/strconv.uint64pow10" = some 0 := by kernel_rfl
theorem Tab.lt {w : World} (h : Tab w) : 0 < w.heap.size := by
  have := h.is
  unfold Lib.TabIs World.var? at this
  rw [gPow] at this
  simp only [Option.bind_some] at this
  rcases Nat.lt_or_ge 0 w.heap.size with k | k
  · exact k
  · rw [Array.getElem?_eq_none k] at this; cases this
theorem Tab.grown {w w' : World} (h : Tab w) (g : Gr w w') : Tab w' := ⟨var?_below g gPow h.lt h.is⟩

theorem Numbered_g (p : Bs) (n : Int) (w : World) (ht : Tab w) (hp : sz p) (h0 : 0 ≤ n) (h1 : n ≤ 9999) :
    Calls Tryd.prog 21 #[.string (B p), .int .i64 n] w fun e w' => e = .returned (.tuple #[.string (B ((numbered p n).getD [])), .bool (numbered p n).isSome]) ∧ Gr w w' :=
  Numbered_c p n w hp (by omega) (by omega) (Or.inr ht.is)

theorem Numbered_at (p : Bs) (n : Int) (o : Option Bs) (w : World) (ht : Tab w) (hp : sz p) (h0 : 0 ≤ n) (h1 : n ≤ 9999) (h : numbered p n = o) :
    Calls Tryd.prog 21 #[.string (B p), .int .i64 n] w fun e w' => e = .returned (.tuple #[.string (B (o.getD [])), .bool o.isSome]) ∧ Gr w w' := by
  rw [← h]; exact Numbered_g p n w ht hp h0 h1

set_option maxRecDepth 100000 in
set_option maxHeartbeats 1000000 in
theorem PathNumbers_c (p : Bs) (a b : Int) (w : World) (hp : p.length ≤ 9223372036854775807) (ha : 0 ≤ a ∧ a ≤ 65535) (hb : 0 ≤ b ∧ b ≤ 65535) (ht : Tab w) :
    Calls Tryd.prog 6 #[.string (B p), .int .u16 a, .int .u16 b] w fun e w' => e = .returned (.bool true) ∧ Gr w w' := by
  obtain ⟨a0, a1⟩ := ha
  obtain ⟨b0, b1⟩ := hb
  by_cases h1 : 100 < p.length
  · go_enter Tryd.func6, Tryd.ntmps6
    go_wp2_with (go_at_call 9; refine (head_g _).mono ?_; rintro e w1 ⟨rfl, g1⟩)
    go_ret
    exact ⟨rfl, by assumption⟩
  · have sp : sz p := sz_of (Nat.le_of_not_lt h1) (by omega)
    obtain ⟨m, hm⟩ : ∃ m : Nat, a % 10000 = m := ⟨(a % 10000).toNat, by omega⟩
    obtain ⟨n, hn⟩ : ∃ n : Nat, b % 10000 = n := ⟨(b % 10000).toNat, by omega⟩
    have hm9 : (m : Int) ≤ 9999 := by omega
    have hn9 : (n : Int) ≤ 9999 := by omega
    rcases numbers p m n (by omega) (by omega) with ⟨e1, e2⟩ | ⟨x, y, e1, e2, e3, e4, e5, e6⟩
    · have c1 := Lib.hid (fun w (ht : Tab w) => Numbered_at p m none w ht sp (by omega) hm9 e1)
      have c2 := Lib.hid (fun w (ht : Tab w) => Numbered_at p n none w ht sp (by omega) hn9 e2)
      clear e1 e2
      go_enter Tryd.func6, Tryd.ntmps6
      go_wp2_with fail
      refine (head_g _).mono ?_; rintro e w1 ⟨rfl, g1⟩
      have t1 := ht.grown g1
      go_wp2_with fail
      refine (c1.out _ t1).mono ?_; rintro e w2 ⟨rfl, g2⟩
      have t2 := t1.grown g2
      have g12 := g1.trans g2
      go_wp2_with fail
      refine (c2.out _ t2).mono ?_; rintro e w3 ⟨rfl, g3⟩
      have g13 := g12.trans g3
      go_wp2
      go_ret
      exact ⟨rfl, g13⟩
    · have c1 := Lib.hid (fun w (ht : Tab w) => Numbered_at p m _ w ht sp (by omega) hm9 e1)
      have c2 := Lib.hid (fun w (ht : Tab w) => Numbered_at p n _ w ht sp (by omega) hn9 e2)
      have s1 : x.length ≤ 104 := by omega
      clear e1 e2
      rcases (show m < n ∨ m = n ∨ n < m from by omega) with h | h | h
      · rw [show decide (m < n) = true from by simpa using h] at e4
        rw [show decide (m = n) = false from by simp; omega] at e5
        have k3 : ((m : Int) == n) = false := beq_eq_false_iff_ne.2 (by omega)
        have k4 : (m : Int) < n := by omega
        go_enter Tryd.func6, Tryd.ntmps6
        go_wp2_with fail
        refine (head_g _).mono ?_; rintro e w1 ⟨rfl, g1⟩
        have t1 := ht.grown g1
        go_wp2_with fail
        refine (c1.out _ t1).mono ?_; rintro e w2 ⟨rfl, g2⟩
        have t2 := t1.grown g2
        have g12 := g1.trans g2
        go_wp2_with fail
        refine (c2.out _ t2).mono ?_; rintro e w3 ⟨rfl, g3⟩
        have g13 := g12.trans g3
        go_wp2
        go_ret
        exact ⟨rfl, g13⟩
      · subst h
        rw [show decide (m < m) = false from by simp] at e4
        rw [show decide (m = m) = true from by simp] at e5
        go_enter Tryd.func6, Tryd.ntmps6
        go_wp2_with fail
        refine (head_g _).mono ?_; rintro e w1 ⟨rfl, g1⟩
        have t1 := ht.grown g1
        go_wp2_with fail
        refine (c1.out _ t1).mono ?_; rintro e w2 ⟨rfl, g2⟩
        have t2 := t1.grown g2
        have g12 := g1.trans g2
        go_wp2_with fail
        refine (c2.out _ t2).mono ?_; rintro e w3 ⟨rfl, g3⟩
        have g13 := g12.trans g3
        go_wp2
        go_ret
        exact ⟨rfl, g13⟩
      · rw [show decide (m < n) = false from by simp; omega] at e4
        rw [show decide (m = n) = false from by simp; omega] at e5
        have k3 : ((m : Int) == n) = false := beq_eq_false_iff_ne.2 (by omega)
        have k4 : ¬ (m : Int) < n := by omega
        go_enter Tryd.func6, Tryd.ntmps6
        go_wp2_with fail
        refine (head_g _).mono ?_; rintro e w1 ⟨rfl, g1⟩
        have t1 := ht.grown g1
        go_wp2_with fail
        refine (c1.out _ t1).mono ?_; rintro e w2 ⟨rfl, g2⟩
        have t2 := t1.grown g2
        have g12 := g1.trans g2
        go_wp2_with fail
        refine (c2.out _ t2).mono ?_; rintro e w3 ⟨rfl, g3⟩
        have g13 := g12.trans g3
        go_wp2
        go_ret
        exact ⟨ret_bool (by simp; omega), g13⟩
end Go.Proofs.YtcmhfofeaghjpaaDoor
