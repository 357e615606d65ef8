/- The document's log: its small functions over plain lists. -/
import Derived.Test.YtankfmlafmjaeaaGreatEh
namespace Go.Proofs.YtankfmlafmjaeaaGreat
open Go.RowKit Pm

/-- How many sectors an area has. -/
def hs (c : Bs) : Nat := (c.length / 16 - 1) / 2
theorem hf_hs (c : Bs) : hf c = hs c * 16 := rfl
theorem st_hs (c : Bs) (a : Nat) : st c a = (1 + a * hs c) * 16 := by unfold st; rw [hf_hs, Nat.add_mul, Nat.mul_assoc]
theorem hs_le (c : Bs) (h : c.length ≤ 65536) : hs c ≤ 2048 := by unfold hs; omega
def nd (n : Nat) : Nat := 1 + (n + 15) / 16
theorem ln_nd (n : Nat) : ln n = nd n * 16 := by unfold ln up nd; omega
def nds (rs : List Bs) : Nat := (rs.map fun r => nd r.length).sum
theorem nds_nil : nds [] = 0 := rfl
theorem nds_cons (r : Bs) (rs : List Bs) : nds (r :: rs) = nd r.length + nds rs := by simp [nds]
theorem nds_app (l m : List Bs) : nds (l ++ m) = nds l + nds m := by simp [nds]
theorem usd_nds (rs : List Bs) : usd rs = nds rs * 16 := by
  induction rs with
  | nil => rfl
  | cons r rs ih => rw [usd_cons, nds_cons, ih, ln_nd]; omega
theorem nds_take (l : List Bs) (k : Nat) (h : k < l.length) : nds (l.take (k + 1)) = nds (l.take k) + nd l[k].length := by
  rw [List.take_succ_eq_append_getElem h, nds_app, nds_cons, nds_nil]; omega
theorem nds_le (l : List Bs) (k : Nat) : nds (l.take k) ≤ nds l := by
  conv => rhs; rw [← List.take_append_drop k l, nds_app]
  omega

theorem half_c {lo : Nat} {p : At} {s : Dk} {w : World} (h : Rf lo p s w) :
    Calls Tryz.prog 40 #[.pointer (some ⟨p.b, 0, none⟩)] w fun e w' => e = .returned (.int .i64 (hs s.cur : Int)) ∧ w' = w := by
  have c0 := h.c0
  obtain ⟨e, h1, h2⟩ := h.rt.curlen
  obtain ⟨n, hn⟩ : ∃ n, n = s.wet.length := ⟨_, rfl⟩
  rw [← hn] at e h1 h2
  obtain ⟨k, hk⟩ : ∃ k, k = (n - 1) / 2 := ⟨_, rfl⟩
  have hr : hs s.cur = k := by unfold hs; rw [e]; omega
  rw [hr]
  rw [e] at c0
  have t0 : (((n * 16 : Nat) : Int)).tdiv 16 = (n : Int) := by rw [Int.tdiv_eq_ediv_of_nonneg (by omega)]; omega
  have t1 : ((n : Int) * 16).tdiv 16 = (n : Int) := by rw [Int.tdiv_eq_ediv_of_nonneg (by omega)]; omega
  have t2 : ((n : Int) * 16) / 16 = (n : Int) := by omega
  have t3 : ((n : Int) - 1).tdiv 2 = (k : Int) := by rw [Int.tdiv_eq_ediv_of_nonneg (by omega)]; omega
  have t4 : ((n : Int) - 1) / 2 = (k : Int) := by omega
  have hkb : k ≤ 4096 := by omega
  have HX := Lib.hid (And.intro h (And.intro e (And.intro hn hk)))
  clear h e hn hk hr
  go_enter Tryz.func40, Tryz.ntmps40
  go_wp2
  go_ret
  exact ⟨rfl, rfl⟩

theorem begin_c {lo : Nat} {p : At} {s : Dk} {w : World} (h : Rf lo p s w) (a : Nat) (ha : a < 2) :
    Calls Tryz.prog 39 #[.pointer (some ⟨p.b, 0, none⟩), .int .i64 (a : Int)] w fun e w' => e = .returned (.int .i64 (st s.cur a : Int)) ∧ w' = w := by
  have hh := half_c h
  have hcl := h.rt.curlen
  have hle := hs_le s.cur (by omega)
  rw [st_hs]
  obtain ⟨H, hH⟩ : ∃ H, H = hs s.cur := ⟨_, rfl⟩
  rw [← hH] at hh hle ⊢
  have HS := Lib.hid hh
  have HX := Lib.hid (And.intro h (And.intro hcl hH))
  clear hh h hcl hH
  rcases (show a = 0 ∨ a = 1 by omega) with rfl | rfl
  · clear ha
    go_enter Tryz.func39, Tryz.ntmps39
    go_wp2_with (go_at_call 40; refine HS.out.mono ?_; rintro e w' ⟨rfl, rfl⟩)
    go_ret
    first | exact ⟨rfl, rfl⟩ | (refine ⟨ret_int ?_, rfl⟩; omega)
  · clear ha
    go_enter Tryz.func39, Tryz.ntmps39
    go_wp2_with (go_at_call 40; refine HS.out.mono ?_; rintro e w' ⟨rfl, rfl⟩)
    go_ret
    first | exact ⟨rfl, rfl⟩ | (refine ⟨ret_int ?_, rfl⟩; omega)

theorem Need_c (n : Nat) (hn : n ≤ 9000000000000000000) (w : World) :
    Calls Tryz.prog 49 #[.int .i64 (n : Int)] w fun e w' => e = .returned (.int .i64 (nd n : Int)) ∧ w' = w := by
  obtain ⟨k, hk⟩ : ∃ k, k = (n + 15) / 16 := ⟨_, rfl⟩
  have hr : nd n = 1 + k := by unfold nd; rw [hk]
  rw [hr]
  have t1 : ((n : Int) + 16 - 1).tdiv 16 = (k : Int) := by rw [Int.tdiv_eq_ediv_of_nonneg (by omega)]; omega
  have t2 : ((n : Int) + 16 - 1) / 16 = (k : Int) := by omega
  have hkb : k ≤ 1000000000000000000 := by omega
  have HX := Lib.hid (And.intro hk hr)
  clear hk hr
  go_enter Tryz.func49, Tryz.ntmps49
  go_wp2
  go_ret
  exact ⟨rfl, rfl⟩

theorem four_r (n : Nat) (hn : n < 4294967296) (w : World) :
    Calls Tryz.prog 74 #[.int .u32 (n : Int)] w fun e w' => ∃ u, e = .returned u ∧ Nw w w' u (be4 n) := by
  have hc := be4_cells n hn
  have hN : Nw w (w.alloc (.cells #[.int .u8 ((n : Int) / 16777216), .int .u8 ((n : Int) / 65536 % 256), .int .u8 ((n : Int) / 256 % 256), .int .u8 ((n : Int) % 256)] 5)) (.slice (some ⟨w.heap.size, 0, none⟩) 4 4) (be4 n) := by
    rw [← hc]
    exact ⟨World.ownsRow_lit w (Lib.byteCells (be4 n)).toArray 4 (Nat.le_refl _) (by unfold maxLen; omega) (by simp [Lib.byteCells, be4]), (Fp.refl Non w).alloc _⟩
  have HN := Lib.hid hN
  clear hN hc
  go_enter Tryz.func74, Tryz.ntmps74
  go_wp2
  go_ret
  exact ⟨_, rfl, HN.out⟩
end Go.Proofs.YtankfmlafmjaeaaGreat
