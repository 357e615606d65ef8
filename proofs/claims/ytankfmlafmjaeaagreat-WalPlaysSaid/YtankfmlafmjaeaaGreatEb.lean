/- The document's Write, byte by byte. -/
import Derived.Test.YtankfmlafmjaeaaGreatEa
namespace Go.Proofs.YtankfmlafmjaeaaGreat
set_option maxRecDepth 20000
open Go.RowKit Pm

theorem spl_step (l : Bs) (a : Nat) (b : Bs) (k : Nat) (h : a + b.length ≤ l.length) (hk : k < b.length) : (spl l a (b.take k)).set (a + k) b[k] = spl l a (b.take (k + 1)) := by
  have e1 : (b.take k).length = k := by simp; omega
  have e2 : (b.take (k + 1)).length = k + 1 := by simp; omega
  apply List.ext_getElem?
  intro j
  rw [List.getElem?_set, spl_get _ _ _ (by omega), spl_get _ _ _ (by omega), spl_len _ _ _ (by omega), e1, e2]
  by_cases h1 : a + k = j
  · subst h1
    rw [if_pos rfl, if_pos (by omega), if_pos (by omega), show a + k - a = k by omega, List.getElem?_take_of_lt (by omega), List.getElem?_eq_getElem hk]
  · rw [if_neg h1]
    by_cases h2 : a ≤ j ∧ j < a + k
    · rw [if_pos h2, if_pos (by omega), List.getElem?_take_of_lt (by omega), List.getElem?_take_of_lt (by omega)]
    · rw [if_neg h2, if_neg (by omega)]
theorem put_step (s : Dk) (a : Nat) (b : Bs) (k : Nat) (h : a + b.length ≤ s.cur.length) (hk : k < b.length) :
    { put s a (b.take k) with cur := (put s a (b.take k)).cur.set (a + k) b[k], wet := (put s a (b.take k)).wet.set ((a + k) / 16) true } = put s a (b.take (k + 1)) := by
  have e1 : (b.take k).length = k := by simp; omega
  have e2 : (b.take (k + 1)).length = k + 1 := by simp; omega
  unfold put
  simp only
  rw [spl_step _ _ _ _ h hk, e1, e2, mark_step s.wet a k 1 ((a + k) / 16) (by omega) (by omega) (by omega)]

theorem byteCells_set (l : Bs) (j : Nat) (c : UInt8) : (bcs l).set j (.int .u8 (c.toNat : Int)) = bcs (l.set j c) := by
  simp [bcs, Lib.byteCells, List.map_set]
theorem rt_byte {s : Dk} (h : Rt s) (j : Nat) (_ : j < s.cur.length) (c : UInt8) : Rt { s with cur := s.cur.set j c, wet := s.wet.set (j / 16) true } := by
  have hcl := h.cl
  refine ⟨by simp; exact h.lo, by simp; exact h.hi, by simp; exact h.cl, by simp; exact h.ol, h.f1, h.f2, fun i hi hw => ?_⟩
  have hi' : i < s.wet.length := by simpa using hi
  simp only [List.getElem_set] at hw
  split at hw
  · cases hw
  · rename_i hne
    rw [← h.dry i hi' hw]
    refine blk_ext (by simp; omega) (by omega) fun k hk => ?_
    rw [List.getElem?_set_ne (by omega)]
theorem Rf.byte {lo : Nat} {p : At} {s : Dk} {w : World} (h : Rf lo p s w) (j : Nat) (hj : j < s.cur.length) (c : UInt8) :
    Rf lo p { s with cur := s.cur.set j c, wet := s.wet.set (j / 16) true } ((w.setCell ⟨p.g, j, none⟩ (.int .u8 (c.toNat : Int))).setCell ⟨p.t, j / 16, none⟩ (.bool true)) ∧
    Fp (own4 p) w ((w.setCell ⟨p.g, j, none⟩ (.int .u8 (c.toNat : Int))).setCell ⟨p.t, j / 16, none⟩ (.bool true)) := by
  have hcl := h.rt.cl
  have hq : j / 16 < s.wet.length := by omega
  have f1 := fp_set w p.g j (.int .u8 (c.toNat : Int))
  have f2 := fp_set (w.setCell ⟨p.g, j, none⟩ (.int .u8 (c.toNat : Int))) p.t (j / 16) (.bool true)
  have c1 := h.cur.set j (by simp [bcs, Lib.byteCells]; exact hj) (.int .u8 (c.toNat : Int))
  rw [byteCells_set] at c1
  have c2 := (h.wet.keep f1 (fun e => h.ne.2.2.1 e.symm)).set (j / 16) (by simp [wcs]; exact hq) (.bool true)
  rw [show (wcs s.wet).set (j / 16) (.bool true) = wcs (s.wet.set (j / 16) true) by simp [wcs, List.map_set]] at c2
  have hb : ((w.setCell ⟨p.g, j, none⟩ (.int .u8 (c.toNat : Int))).setCell ⟨p.t, j / 16, none⟩ (.bool true)).heap[p.b]? = some (.cells (rcells p s) TR (0, 0)) := by
    rw [f2.block p.b (by simpa [World.setCell] using h.lt) (fun e => h.ne.1.2.2 e), f1.block p.b h.lt (fun e => h.ne.1.1 e)]; exact h.blk
  refine ⟨⟨rt_byte h.rt j hj c, h.low, h.ne, ?_, ?_, c1.keep f2 (fun e => h.ne.2.2.1 e), (h.old.keep f1 (fun e => h.ne.2.1 e.symm)).keep f2 (fun e => h.ne.2.2.2 e), c2⟩, ?_⟩
  · simp only [List.length_set]; exact h.cap
  · rw [hb]; simp [rcells]
  · exact (f1.mono (fun k hk => .inr (.inl hk))).same (f2.mono (fun k hk => .inr (.inr (.inr hk))))

theorem wrap_diff (n a : Nat) (h : a ≤ n) (h2 : n ≤ 1000000) : wrap64 ((n : Int) - (a : Int)) = (n : Int) - (a : Int) := by unfold wrap64; omega

set_option maxHeartbeats 2000000 in
theorem RWrite_down {lo : Nat} {p : At} {s : Dk} {w : World} (h : Rf lo p s w) (a : Int) (bv : Value) (ho : (pw s).off = true) :
    Calls Tryz.prog 42 #[.pointer (some ⟨p.b, 0, none⟩), .int .i64 a, bv] w fun e w' => e = .returned (.int .i64 31) ∧ Rf lo p (pw s) w' ∧ Fp (own4 p) w w' := by
  have hp := Rpower_c h
  rw [ho] at hp
  have HP := Lib.hid hp; clear hp h
  go_enter Tryz.func42, Tryz.ntmps42
  go_wp2_with fail
  refine HP.out.mono ?_
  rintro e w1 ⟨rfl, h1, hf1⟩
  have H1 := Lib.hid (And.intro h1 (hf1.mono (fun k hk => (.inl hk : own4 p k)))); clear h1 hf1
  go_wp2
  go_ret
  exact ⟨rfl, H1.out.1, H1.out.2⟩

set_option maxHeartbeats 2000000 in
theorem RWrite_arg {lo : Nat} {p : At} {s : Dk} {w : World} (h : Rf lo p s w) (a : Int) (ha : -9223372036854775808 ≤ a ∧ a ≤ 9223372036854775807) (bv : Value) (bl : Bs) (hb : Sl0 w bv bl) (ho : (pw s).off = false) (hf : ¬ fits s a bl.length) :
    Calls Tryz.prog 42 #[.pointer (some ⟨p.b, 0, none⟩), .int .i64 a, bv] w fun e w' => e = .returned (.int .i64 1) ∧ Rf lo p (pw s) w' ∧ Fp (own4 p) w w' := by
  obtain ⟨bao, bcap, rfl, _, _, _⟩ := hb.ex
  have hp := Rpower_c h
  rw [ho] at hp
  have HP := Lib.hid hp
  have hcl := h.rt.cl
  have hhi := h.rt.hi
  have hwr : (((s.cur.length : Int) < a) = False) → ((a < 0) = False) → wrap64 ((s.cur.length : Int) - a) = (s.cur.length : Int) - a := fun h1 h2 => by
    have h1 := of_eq_false h1
    have h2 := of_eq_false h2
    unfold wrap64; omega
  have hq : (a < 0) = True ∨ (a < 0) = False ∧ (((s.cur.length : Int) < a) = True ∨ ((s.cur.length : Int) < a) = False ∧ ((s.cur.length : Int) - a < (bl.length : Int)) = True) := by
    unfold fits at hf
    by_cases h1 : a < 0
    · exact .inl (eq_true h1)
    · refine .inr ⟨eq_false h1, ?_⟩
      by_cases h2 : (s.cur.length : Int) < a
      · exact .inl (eq_true h2)
      · exact .inr ⟨eq_false h2, eq_true (by omega)⟩
  have HW := Lib.hid hwr
  clear hp h hb ha hf hcl hhi hwr
  rcases hq with q1 | ⟨q1, q2 | ⟨q2, q3⟩⟩
  case inl =>
    go_enter Tryz.func42, Tryz.ntmps42
    go_wp2_with fail
    refine HP.out.mono ?_
    rintro e w1 ⟨rfl, h1, hf1⟩
    have H1 := Lib.hid (And.intro h1 (hf1.mono (fun k hk => (.inl hk : own4 p k))))
    have c0 : w1.cell? ⟨p.b, 0, none⟩ = some (.slice (some ⟨p.g, 0, none⟩) s.cur.length p.gc) := h1.c0
    clear h1 hf1
    go_wp2
    go_ret
    exact ⟨rfl, H1.out.1, H1.out.2⟩
  case inr.inl =>
    go_enter Tryz.func42, Tryz.ntmps42
    go_wp2_with fail
    refine HP.out.mono ?_
    rintro e w1 ⟨rfl, h1, hf1⟩
    have H1 := Lib.hid (And.intro h1 (hf1.mono (fun k hk => (.inl hk : own4 p k))))
    have c0 : w1.cell? ⟨p.b, 0, none⟩ = some (.slice (some ⟨p.g, 0, none⟩) s.cur.length p.gc) := h1.c0
    clear h1 hf1
    go_wp2
    go_ret
    exact ⟨rfl, H1.out.1, H1.out.2⟩
  case inr.inr =>
    have w64 := HW.out q2 q1
    go_enter Tryz.func42, Tryz.ntmps42
    go_wp2_with fail
    refine HP.out.mono ?_
    rintro e w1 ⟨rfl, h1, hf1⟩
    have H1 := Lib.hid (And.intro h1 (hf1.mono (fun k hk => (.inl hk : own4 p k))))
    have c0 : w1.cell? ⟨p.b, 0, none⟩ = some (.slice (some ⟨p.g, 0, none⟩) s.cur.length p.gc) := h1.c0
    clear h1 hf1
    go_wp2
    go_ret
    exact ⟨rfl, H1.out.1, H1.out.2⟩

theorem wrap_sum (a k : Nat) (h : a + k < 100000) : IntKind.i64.wrap ((a : Int) + (k : Int)) = (a : Int) + (k : Int) ∧ wrap64 ((a : Int) + (k : Int)) = (a : Int) + (k : Int) ∧ ((a : Int) + (k : Int)).toNat = a + k := by
  refine ⟨?_, ?_, by omega⟩
  · rw [IntKind.wrap_i64]; omega
  · unfold wrap64; omega

attribute [local irreducible] wpStill

set_option maxHeartbeats 2000000 in
theorem RWrite_ok {lo : Nat} {p : At} {s : Dk} {w : World} (h : Rf lo p s w) (a : Nat) (bv : Value) (bl : Bs) (hb : Sl0 w bv bl) (hd : 0 < bl.length → ∀ k, bv.ownBlock = some k → ¬ own4 p k) (ho : (pw s).off = false) (hf : a + bl.length ≤ s.cur.length) (hacts : s.acts ≤ 999999) :
    Calls Tryz.prog 42 #[.pointer (some ⟨p.b, 0, none⟩), .int .i64 (a : Int), bv] w fun e w' => e = .returned (.int .i64 0) ∧ Rf lo p (did (put (pw s) a bl)) w' ∧ Fp (own4 p) w w' := by
  obtain ⟨bao, bcap, rfl, hb1, _, hb3⟩ := hb.ex
  have hp := Rpower_c h
  rw [ho] at hp
  have hcl := h.rt.cl
  have hhi := h.rt.hi
  have q1 : ((a : Int) < 0) = False := eq_false (by omega)
  have q2 : ((s.cur.length : Int) < (a : Int)) = False := eq_false (by omega)
  have w64 := wrap_diff s.cur.length a (by omega) (by omega)
  have q3 : ((s.cur.length : Int) - (a : Int) < (bl.length : Int)) = False := eq_false (by omega)
  have HP := Lib.hid (And.intro hp (And.intro hb hd))
  have HB := Lib.hid (And.intro hf (And.intro hacts (And.intro hcl hhi)))
  have HB3 := Lib.hid (And.intro hb1 hb3)
  clear hp h hb hd hf hacts hcl hhi hb1 hb3
  go_enter Tryz.func42, Tryz.ntmps42
  go_wp2_with fail
  refine HP.out.1.mono ?_
  rintro e w1 ⟨rfl, h1, hf1⟩
  have hf1 : Fp (own4 p) w w1 := hf1.mono (fun k hk => .inl hk)
  have c0 : w1.cell? ⟨p.b, 0, none⟩ = some (.slice (some ⟨p.g, 0, none⟩) s.cur.length p.gc) := h1.c0
  have H1 := Lib.hid (And.intro h1 hf1); clear h1 hf1
  go_wp2_with fail
  clear w64
  go_loopw [8] (fun i wr => ∃ k : Nat, k ≤ bl.length ∧ i = .int .i64 k ∧ Hid (Rf lo p (put (pw s) a (bl.take k)) wr ∧ Fp (own4 p) w wr)) (fun i _ => bl.length - (RowKit.intOf i).toNat)
  case atStart => exact ⟨0, Nat.zero_le _, rfl, by rw [List.take_zero, put_nil]; exact ⟨H1.out.1, H1.out.2⟩⟩
  case round =>
    obtain ⟨k, hk, rfl, hR⟩ := hrel
    rename_i wr _
    by_cases hlt : k < bl.length
    · rcases HB3.out.2 with h0 | ⟨bg, bo, rfl, hbg, hbc⟩
      · exact absurd (Nat.lt_of_lt_of_le hlt (h0 ▸ HB3.out.1)) (Nat.not_lt_zero k)
      have hbn : ¬ own4 p bg := HP.out.2.2 (Nat.lt_of_le_of_lt (Nat.zero_le _) hlt) bg rfl
      obtain ⟨q, hqe⟩ : ∃ q, q = (a + k) / 16 := ⟨_, rfl⟩
      have hpl : (put (pw s) a (bl.take k)).cur.length = s.cur.length := by
        show (spl s.cur a (bl.take k)).length = _
        exact spl_len _ _ _ (by have := HB.out.1; simp; omega)
      have hwl : (put (pw s) a (bl.take k)).wet.length = s.wet.length := mark_len _ _ _
      have hR0 := hR.out.1
      have cb := hR.out.2.cell (hbc k hlt) hbn
      have c0 := hR0.c0
      have fs := fp_set wr p.g (a + k) (.int .u8 (bl[k].toNat : Int))
      have c2 := fs.cell hR0.c2 (fun e => hR0.ne.1.1 e)
      have hak : a + k < s.cur.length := by have := HB.out.1; omega
      have hq : q < s.wet.length := by have := HB.out.2.2.1; omega
      have cg : ∃ u, wr.cell? ⟨p.g, a + k, none⟩ = some u := ⟨_, hR0.cur.cell (a + k) (by simp [bcs, Lib.byteCells]; rw [hpl]; exact hak)⟩
      have ct : ∃ u, (wr.setCell ⟨p.g, a + k, none⟩ (.int .u8 (bl[k].toNat : Int))).cell? ⟨p.t, q, none⟩ = some u := ⟨_, fs.cell (hR0.wet.cell q (by simp [wcs]; rw [hwl]; exact hq)) (fun e => hR0.ne.2.2.1 e.symm)⟩
      obtain ⟨ug, cg⟩ := cg
      obtain ⟨ut, ct⟩ := ct
      have fg := hR0.cur.fz (a + k)
      have ft := (setCell_frozen wr p.g (a + k) (.int .u8 (bl[k].toNat : Int)) p.t q).trans (hR0.wet.fz q)
      rw [hpl] at c0
      rw [hwl] at c2
      have hby := hR0.byte (a + k) (by rw [hpl]; exact hak) bl[k]
      rw [put_step (pw s) a bl k HB.out.1 hlt, ← hqe] at hby
      have hcl := HB.out.2.2.1
      have hhi := HB.out.2.2.2
      have hqb : q < 4096 := by omega
      have ft2 := hR0.wet.fz q
      have g1 : ((k : Int) < (bl.length : Int)) = True := eq_true (by omega)
      have g2 : (k < bl.length) = True := eq_true hlt
      have g3 : ((a : Int) + (k : Int) < (s.cur.length : Int)) = True := eq_true (by omega)
      have g4 : (a + k < s.cur.length) = True := eq_true hak
      have e1 : ((a : Int) + (k : Int)) / 16 = (q : Int) := by omega
      have t1 : ((a : Int) + (k : Int)).tdiv 16 = (q : Int) := by rw [Int.tdiv_eq_ediv_of_nonneg (by omega)]; exact e1
      have g5 : ((q : Int) < (s.wet.length : Int)) = True := eq_true (by omega)
      have g6 : (q < s.wet.length) = True := eq_true hq
      have HWK := Lib.hid (wrap_sum a k (by omega))
      generalize bl[k] = x at *
      have HK := Lib.hid (And.intro hlt (And.intro hk (And.intro hby hR)))
      clear hlt hk hbc hbn hqe hpl hwl hR0 fs hak hq hby hcl hhi hR
      have wk1 := HWK.out.1
      have wk3 := HWK.out.2.2
      go_wp2_with fail
      refine wp_region_still_tail 11 (by kernel_rfl) (by kernel_rfl) ?_
      simp only [List.take_succ_cons, List.take_zero, List.drop_succ_cons, List.drop_zero]
      change wpStill _ _ wr.drew _ _ _
      repeat still_step
      refine wpStill_nil ?_
      change wpList _ _ _ _ _ wr.drew
      go_wp2_with fail
      go_roundw
      case rel => exact ⟨k + 1, HK.out.1, by go_num, HK.out.2.2.1.1.keep (Fp.drew (Fp.refl Non _)) (fun _ _ h => h), (HK.out.2.2.2.out.2.same HK.out.2.2.1.2).drew⟩
      case measure => have := HK.out.1; simp [RowKit.intOf]; omega
    · have hke : k = bl.length := Nat.le_antisymm hk (Nat.not_lt.1 hlt)
      subst hke
      rw [List.take_length] at hR
      have g1 : ((bl.length : Int) < (bl.length : Int)) = False := eq_false (Int.lt_irrefl _)
      have hz : (put (pw s) a bl).fuse ≠ 0 := fun h0 => by
        have h0 : s.fuse = 0 := h0
        have : (pw s).off = true := by unfold pw; simp [h0]
        rw [ho] at this
        cases this
      have hdd := Rdid_c hR.out.1 hz (show s.acts ≤ 1000000000 from Nat.le_trans HB.out.2.1 (by omega))
      have HD := Lib.hid hdd
      clear hk hlt hz hdd
      go_wp2_with fail
      refine HD.out.mono ?_
      rintro e w5 ⟨rfl, h5, hf5⟩
      have H5 := Lib.hid (And.intro h5 (hR.out.2.same (hf5.mono (fun k hk => (.inl hk : own4 p k))))); clear h5 hf5
      go_wp2
      go_ret
      exact ⟨rfl, H5.out.1, H5.out.2⟩

theorem RWrite_c {lo : Nat} {p : At} {s : Dk} {w : World} (h : Rf lo p s w) (a : Int) (ha : -9223372036854775808 ≤ a ∧ a ≤ 9223372036854775807) (bv : Value) (bl : Bs) (hb : Sl0 w bv bl) (hd : 0 < bl.length → ∀ k, bv.ownBlock = some k → ¬ own4 p k) (hacts : s.acts ≤ 999999) :
    Calls Tryz.prog 42 #[.pointer (some ⟨p.b, 0, none⟩), .int .i64 a, bv] w fun e w' => e = .returned (.int .i64 (dWrite s a bl).1) ∧ Rf lo p (dWrite s a bl).2 w' ∧ Fp (own4 p) w w' := by
  unfold dWrite
  cases ho : (pw s).off with
  | true =>
    rw [if_pos rfl]
    exact RWrite_down h a bv ho
  | false =>
    rw [if_neg Bool.false_ne_true]
    by_cases hf : fits s a bl.length
    · rw [if_pos hf]
      have hf' := hf
      unfold fits at hf'
      obtain ⟨a, rfl⟩ := Int.eq_ofNat_of_zero_le hf'.1
      exact RWrite_ok h a bv bl hb hd ho (by omega) hacts
    · rw [if_neg hf]
      exact RWrite_arg h a ha bv bl hb ho hf
end Go.Proofs.YtankfmlafmjaeaaGreat
