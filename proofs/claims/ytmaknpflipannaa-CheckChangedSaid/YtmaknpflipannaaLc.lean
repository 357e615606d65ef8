/- CheckChanged: the law's walk. -/
import Derived.Test.YtmaknpflipannaaCp
namespace Go.Proofs.Ytmaknpflipannaa
open Go.RowKit Pm

theorem Changed_out (s m c : Int) (v : Value) (l : Bs) (w : World) (hl : Sl w v l) (h : l.length = 0 ∨ 100000 < l.length) :
    Calls Try.prog 4 #[.int .u16 s, v, .int .u16 m, .int .u8 c] w fun e w' => e = .returned (.bool true) ∧ Fp Non w w' := by
  obtain ⟨ao, cap, rfl, _, _, _⟩ := hl.ex
  have hq : ((l.length : Int) == 0) = true ∨ ((l.length : Int) == 0) = false ∧ ((100000 : Int) < (l.length : Int)) = True := by
    by_cases h0 : l.length = 0
    · exact .inl (beq_iff_eq.2 (by omega))
    · exact .inr ⟨beq_eq_false_iff_ne.2 (by omega), eq_true (by omega)⟩
  clear hl h
  rcases hq with q1 | ⟨q1, q2⟩ <;> (
    go_enter Try.func4, Try.ntmps4
    go_wp2_with fail
    refine (head_c w).mono ?_
    rintro e w1 ⟨rfl, hfp⟩
    have HFP := Lib.hid hfp; clear hfp
    go_wp2
    go_ret
    exact ⟨rfl, HFP.out⟩)

set_option maxHeartbeats 2000000 in
theorem Changed_in (s m : Nat) (c : UInt8) (v : Value) (l : Bs) (w : World) (hs : s < 65536) (hm : m < 65536) (hl : Sl w v l) (h0 : 0 < l.length) (h1 : l.length ≤ 100000) :
    Calls Try.prog 4 #[.int .u16 (s : Int), v, .int .u16 (m : Int), .int .u8 (c.toNat : Int)] w fun e w' => e = .returned (.bool true) ∧ Fp Non w w' := by
  obtain ⟨ao, cap, rfl, _, _, h3⟩ := hl.ex
  rcases h3 with ⟨_, h3⟩ | ⟨g, o, rfl, hg, hcell⟩
  · omega
  have q1 : ((l.length : Int) == 0) = false := beq_eq_false_iff_ne.2 (by omega)
  have q2 : ((100000 : Int) < (l.length : Int)) = False := eq_false (by omega)
  have q5 : (l.length = 0) = False := eq_false (by omega)
  have q6 : (l = []) = False := eq_false (by rintro rfl; simp at h0)
  obtain ⟨m1, m2⟩ := cut_mod m l.length
  have hk : m % l.length < l.length := Nat.mod_lt _ h0
  generalize m % l.length = k at *
  have q3 : ((k : Int) < (l.length : Int)) = True := eq_true (by omega)
  have q4 : (k < l.length) = True := eq_true hk
  have hck := hcell k hk
  have hb := sum_set s l k hk c
  have hcc : ((c.toNat : Int) == (l[k].toNat : Int)) = (c == l[k]) := by
    by_cases h : c = l[k]
    · rw [← h]; simp
    · rw [beq_eq_false_iff_ne.2 h, beq_eq_false_iff_ne]
      intro e
      exact h (UInt8.toNat_inj.1 (by omega))
  have hii : (((sum s (l.set k c) : Nat) : Int) == ((sum s l : Nat) : Int)) = (sum s (l.set k c) == sum s l) := by
    by_cases h : sum s (l.set k c) = sum s l
    · rw [h]; simp
    · rw [beq_eq_false_iff_ne.2 h, beq_eq_false_iff_ne]; omega
  rw [hb] at hii
  clear hb hcell
  obtain ⟨A, hA⟩ : ∃ A, A = sum s (l.set k c) := ⟨_, rfl⟩
  obtain ⟨Z, hZ⟩ : ∃ Z, Z = sum s l := ⟨_, rfl⟩
  rw [← hA, ← hZ] at hii
  have HAZ := Lib.hid (And.intro hA hZ); clear hA hZ
  generalize l[k] = d at *
  generalize (c == d) = E at *
  have HS := Lib.hid (And.intro hs (And.intro hl (And.intro h0 (And.intro h1 (And.intro hk hg))))); clear hs hl h0 h1 hk hg
  go_enter Try.func4, Try.ntmps4
  go_wp2_with fail
  refine (head_c w).mono ?_
  rintro e w1 ⟨rfl, hfp⟩
  have hl1 := HS.out.2.1.keep hfp (fun _ _ h => h)
  have happ := (Nw.made w1).more _ l 23 (hl1.keep ((Fp.refl Non w1).alloc _) (fun _ _ h => h)) (by have := HS.out.2.2.2.1; simp; omega)
  have HA := Lib.hid happ
  have HF := Lib.hid (And.intro hfp hl1); clear happ hfp hl1
  go_wp2_with (at_builtin; go_must (refine wpList_app rfl _ _ _ _ rfl _ _ rfl rfl _ HA.out ?_))
  intro v' w2 hN
  obtain ⟨g', cap', rfl, hc', hg', hfz⟩ := hN.some HS.out.2.2.1
  have hN' := hN.sl.set k HS.out.2.2.2.2.1 c
  have hgo : g ≠ g' := by have := HS.out.2.2.2.2.2; have := HF.out.1.size; omega
  have f2 : Fp Non w w2 := HF.out.1.then hN.fp
  have f3 : Fp Non w (w2.setCell ⟨g', 0 + k, none⟩ (.int .u8 (c.toNat : Int))) := f2.setCell (.inr (by have := HF.out.1.size; show w.heap.size ≤ g'; omega)) _
  rw [Nat.zero_add] at hN' f3
  have hlb := HS.out.2.1.keep f3 (fun _ _ h => h)
  have k1 := fun n => Sum_c s _ _ _ HS.out.1 (hN'.keep ((Fp.refl Non _).drewN n) (fun _ _ h => h))
  have k2 := fun n => Sum_c s _ _ _ HS.out.1 (hlb.keep ((Fp.refl Non _).drewN n) (fun _ _ h => h))
  have hcb := f3.cell hck (fun h => h)
  have hfzk := hfz k
  have hcc2 : ∃ u, w2.cell? ⟨g', k, none⟩ = some u := by
    obtain ⟨ao', cap2, e, _, _, h3⟩ := hN.sl.ex
    injection e with e1 e2 e3
    subst e1 e3
    rcases h3 with ⟨h, _⟩ | ⟨g2, o2, e, _, h3⟩
    · cases h
    · injection e with e
      injection e with e1 e2
      subst e1 e2
      have := h3 k HS.out.2.2.2.2.1
      rw [Nat.zero_add] at this
      exact ⟨_, this⟩
  obtain ⟨u, hcc2⟩ := hcc2
  rw [← HAZ.out.1] at k1
  rw [← HAZ.out.2] at k2
  have HK := Lib.hid (And.intro k1 (And.intro k2 f3)); clear k1 k2 hN hN' hlb hfz HA f2 f3
  go_wp2_with fail
  go_quiet (first
    | (go_at_call_of 10 g'; refine (HK.out.1 _).mono ?_; rintro e w' ⟨rfl, rfl⟩; exact ⟨rfl, _, rfl⟩)
    | (go_at_call_of 10 g; refine (HK.out.2.1 _).mono ?_; rintro e w' ⟨rfl, rfl⟩; exact ⟨rfl, _, rfl⟩))
  go_wp2
  go_ret
  exact ⟨rfl, HK.out.2.2.drewN _⟩

theorem CheckChanged_c (s : Int) (v : Value) (l : Bs) (m c : Int) (w : World) (hs : 0 ≤ s ∧ s ≤ 65535) (hl : Sl w v l) (hm : 0 ≤ m ∧ m ≤ 65535) (hc : 0 ≤ c ∧ c ≤ 255) :
    Calls Try.prog 4 #[.int .u16 s, v, .int .u16 m, .int .u8 c] w fun e w' => e = .returned (.bool true) ∧ Fp Non w w' := by
  by_cases h : l.length = 0 ∨ 100000 < l.length
  · exact Changed_out s m c v l w hl h
  · obtain ⟨s, rfl⟩ := Int.eq_ofNat_of_zero_le hs.1
    obtain ⟨m, rfl⟩ := Int.eq_ofNat_of_zero_le hm.1
    obtain ⟨c, rfl⟩ := Int.eq_ofNat_of_zero_le hc.1
    have := Changed_in s m (UInt8.ofNat c) v l w (by omega) (by omega) hl (by omega) (by omega)
    rwa [show (UInt8.ofNat c).toNat = c by rw [UInt8.toNat_ofNat']; omega] at this
end Go.Proofs.Ytmaknpflipannaa
