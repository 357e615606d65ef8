/- filled, sign, count, header: contracts over plain lists. -/
import Derived.Test.YtankfmlafmjaeaaGreatSw
import Derived.Test.YtankfmlafmjaeaaGreatWr
namespace Go.Proofs.YtankfmlafmjaeaaGreat
set_option maxRecDepth 20000
open Go.RowKit Pm

theorem Nw.shape3 {w w' : World} {v : Value} {l : Bs} (h : Nw w w' v l) : ∃ ao n cap, v = .slice ao n cap := by
  obtain ⟨ao, cap, e⟩ := h.shape; exact ⟨ao, _, cap, e⟩
theorem Nw.after {a b c : World} {v : Value} {l : Bs} (h : Nw b c v l) (f : Fp Non a b) : Nw a c v l := by
  refine ⟨⟨h.own.1, ?_⟩, f.then h.fp⟩
  rcases h.own.2 with hn | ⟨g, cap, cur, rfl, hb, rest⟩
  · exact .inl hn
  · exact .inr ⟨g, cap, cur, rfl, Nat.le_trans f.size hb, rest⟩
theorem spl_pad (b : Bs) : spl (List.replicate (up b.length) 0) 0 b = pad b := by
  unfold spl pad zr
  rw [List.take_zero, List.nil_append, Nat.zero_add, List.drop_replicate]

set_option maxHeartbeats 1000000 in
theorem filled_c (v : Value) (b : Bs) (w : World) (h : Sl w v b) (hb : b.length ≤ 100000) :
    Calls Tryz.prog 47 #[v] w fun e w' => ∃ u, e = .returned u ∧ Nw w w' u (pad b) := by
  have hul := up_le b.length
  have hmk := make_bytes w (up b.length) (by omega)
  have hrow0 := Rw.made w 5 (List.replicate (up b.length) 0)
  have hfp0 : Fp Non w (w.alloc (.cells (Lib.byteCells (List.replicate (up b.length) 0)).toArray 5)) := (Fp.refl Non w).alloc _
  obtain ⟨W0, hW0⟩ : ∃ W0, W0 = w.alloc (.cells (Lib.byteCells (List.replicate (up b.length) 0)).toArray 5) := ⟨_, rfl⟩
  rw [← hW0] at hmk hrow0 hfp0
  clear hW0
  obtain ⟨n, hn⟩ : ∃ n, n = up b.length := ⟨_, rfl⟩
  have hcp := copy_at hrow0 0 (up b.length) (up b.length) (h.keep hfp0 (fun _ _ h => h)) b.length (Nat.min_eq_left hul.1).symm (by simp; omega) (some ⟨w.heap.size, 0, none⟩) (fun _ => rfl) 3
  rw [List.take_length, spl_pad] at hcp
  rw [← hn] at hmk hcp
  have hlc := length_c b.length (by omega) w
  have hln : (ln b.length : Int) = 16 + (n : Int) := by rw [hn]; unfold ln; omega
  rw [hln] at hlc
  obtain ⟨ao, cap, hv, _, _, _⟩ := h.ex
  have hnb : n ≤ 100016 := by omega
  have hfin : ∀ v' w', CpR w.heap.size 5 (pad b) b.length W0 v' w' → Nw w w' (.slice (some ⟨w.heap.size, 0, none⟩) n n) (pad b) := fun v' w' hc => by
    have := Nw.of_row (w := w) hc.row (Nat.le_refl _) (by rw [pad_len]; unfold maxLen; omega) (hfp0.trans hc.fp (fun k hk => .inr (by omega)))
    rwa [pad_len, ← hn] at this
  rw [hv] at hcp ⊢
  rw [show (n : Int) = 16 + (n : Int) - 16 by omega] at hmk
  have HL := Lib.hid hlc
  have HM := Lib.hid hmk
  have HC := Lib.hid hcp
  have HF := Lib.hid hfin
  have HX := Lib.hid (And.intro h (And.intro hul (And.intro hn hv)))
  clear hlc hmk hcp hfin h hul hn hv hrow0 hfp0 hln
  go_enter Tryz.func47, Tryz.ntmps47
  go_wp2_with fail
  refine HL.out.mono ?_
  rintro e w1 ⟨rfl, rfl⟩
  go_wp2_with (refine wpList_make_run rfl 22 _ _ rfl _ _ _ rfl rfl HM.out ?_)
  go_wp2_with fail
  obtain ⟨v', w2, hr, hw2⟩ := HC.out
  rw [hr]
  simp only [Result.andThen]
  rw [Oper.upon_value]
  have HW := Lib.hid (HF.out _ _ hw2)
  clear hw2 hr
  go_wp2
  go_ret
  exact ⟨_, rfl, HW.out⟩

theorem sign_c (a : Nat) (ha : a < 2) (w : World) :
    Calls Tryz.prog 52 #[.int .i64 (a : Int)] w fun e w' => ∃ u, e = .returned u ∧ Nw w w' u (sgn a) := by
  have hrow := Sl.lit w [87, UInt8.ofNat a] (by show 2 ≤ 1000; omega)
  have hfp : Fp Non w (w.alloc (.cells (Lib.byteCells [87, UInt8.ofNat a]).toArray 5)) := (Fp.refl Non w).alloc _
  have hcells : (Lib.byteCells [87, UInt8.ofNat a]).toArray = #[.int .u8 87, .int .u8 (a : Int)] := by
    have : a = 0 ∨ a = 1 := by omega
    rcases this with rfl | rfl <;> rfl
  rw [hcells] at hrow hfp
  have hc := filled_c _ _ _ hrow (by show 2 ≤ 100000; omega)
  have hp : pad [87, UInt8.ofNat a] = sgn a := by
    show [87, UInt8.ofNat a] ++ zr (up 2 - 2) = _
    rw [show up 2 - 2 = 14 by decide]; rfl
  rw [hp] at hc
  have HC := Lib.hid hc
  have HF := Lib.hid hfp
  have hab : a ≤ 1 := by omega
  clear hc hrow hfp hcells hp ha
  go_enter Tryz.func52, Tryz.ntmps52
  go_wp2_with fail
  refine HC.out.mono ?_
  rintro e w1 ⟨u, rfl, hN⟩
  have HN := Lib.hid hN
  obtain ⟨ao, n, cap, rfl⟩ := hN.shape3
  clear hN
  go_wp2
  go_ret
  exact ⟨_, rfl, HN.out.after HF.out⟩
end Go.Proofs.YtankfmlafmjaeaaGreat
