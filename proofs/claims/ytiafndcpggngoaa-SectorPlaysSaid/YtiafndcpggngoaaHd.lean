/- The live question. -/
import Derived.Test.YtiafndcpggngoaaCr
namespace Go.Proofs.Ytiafndcpggngoaa
open Go.RowKit Pm

theorem Sl.lit (w : World) (l : Bs) (hl : l.length ≤ 1000) : Sl (w.alloc (.cells (Lib.byteCells l).toArray 5)) (.slice (some ⟨w.heap.size, 0, none⟩) l.length l.length) l := by
  have := Sl.of_row (Rw.made w 5 l) 0 l.length l.length (by omega) (Nat.le_refl _) (by unfold maxLen; omega)
  rwa [List.drop_zero, List.take_length] at this
theorem Sb.lit (w : World) (l : List Bool) (hl : l.length ≤ 1000) : Sb (w.alloc (.cells (l.map Value.bool).toArray 4)) (.slice (some ⟨w.heap.size, 0, none⟩) l.length l.length) l := by
  refine ⟨some ⟨w.heap.size, 0, none⟩, l.length, rfl, Nat.le_refl _, by unfold maxLen; omega, .inr ⟨w.heap.size, 0, rfl, by simp, fun j hj => ?_⟩⟩
  rw [cell_of_row _ _ _ _ _ _ (heap_alloc_new w _)]
  simp [hj]

def s0 : Dk := dOf (List.replicate (3 * 16) 0)
theorem h1 : (dWrite s0 15 [1, 2]).1 = 0 := by decide
def s1 : Dk := (dWrite s0 15 [1, 2]).2
theorem h2 : loose s1.wet = [0, 1] := by decide
theorem h3 : dWrite s1 47 [1, 2] = (1, s1) := by rfl
def s2 : Dk := dCrash s1 [false, true]
theorem h4 : dRead s2 14 4 = ([0, 0, 2, 0], 0) := by rfl
theorem h5 : s2.acts = 1 ∧ s2.cur.length = 48 ∧ s0.acts = 0 ∧ s1.acts = 1 := by decide

set_option maxHeartbeats 4000000 in
theorem head_c (w : World) : Calls Try.prog 9 #[] w fun e w' => e = .returned (.bool true) ∧ Fp Non w w' := by
  go_enter Try.func9, Try.ntmps9
  go_wp2_with fail
  refine (New_c w.heap.size w 3 (by omega) (by omega) (Nat.le_refl _)).mono ?_
  rintro e w1 ⟨b, g, m, rfl, hd, hf, hown⟩
  have hsl := Sl.lit w1 [1, 2] (by decide)
  have hd1 := hd.keep ((Fp.refl Non w1).alloc (.cells (Lib.byteCells [1, 2]).toArray 5)) (fun _ _ h => h)
  have hall := hd.all
  have hne : ∀ k, (Value.slice (some ⟨w1.heap.size, 0, none⟩) [(1 : UInt8), 2].length [(1 : UInt8), 2].length).ownBlock = some k → ¬ own3 b g m k := fun k hk ho => by
    have := hall k ho; simp [Value.ownBlock] at hk; omega
  have hw := Write_c hd1 15 (by omega) _ [1, 2] hsl.zero (fun _ => hne) (by show s0.acts ≤ _; rw [h5.2.2.1]; omega)
  have hf1 : Fp Non w (w1.alloc (.cells (Lib.byteCells [1, 2]).toArray 5)) := hf.alloc _
  have HD := Lib.hid (And.intro hd (And.intro hf1 (And.intro hall hown)))
  have HW := Lib.hid hw
  clear hd hf hown hsl hd1 hall hne hw hf1
  go_wp2_with fail
  refine HW.out.mono ?_
  rintro e w2 ⟨rfl, hd2, hf2⟩
  change Dr _ b g m s1 w2 at hd2
  have e1 : (dWrite (dOf (List.replicate (3 * 16) 0)) 15 [1, 2]).1 = 0 := h1
  rw [e1]
  clear e1
  have HD2 := Lib.hid (And.intro hd2 hf2); clear hd2 hf2
  go_wp2_with fail
  refine (Loose_c HD2.out.1).mono ?_
  rintro e w3 ⟨lv, rfl, hN⟩
  rw [h2] at hN
  obtain ⟨lao, lcap, rfl, hlc⟩ := hN.cells
  obtain ⟨lg, rfl, hlg, hlc⟩ := hlc (by decide)
  have HL := Lib.hid (And.intro hN (And.intro hlg hlc)); clear hN hlc hlg
  have hd3 := HD2.out.1.keep HL.out.1.fp (fun _ _ h => h)
  have hsl := Sl.lit w3 [1, 2] (by decide)
  have hd4 := hd3.keep ((Fp.refl Non w3).alloc (.cells (Lib.byteCells [1, 2]).toArray 5)) (fun _ _ h => h)
  have hall := hd3.all
  have hne : ∀ k, (Value.slice (some ⟨w3.heap.size, 0, none⟩) [(1 : UInt8), 2].length [(1 : UInt8), 2].length).ownBlock = some k → ¬ own3 b g m k := fun k hk ho => by
    have := hall k ho; simp [Value.ownBlock] at hk; omega
  have hw := Write_c hd4 47 (by omega) _ [1, 2] hsl.zero (fun _ => hne) (by rw [h5.2.2.2]; omega)
  rw [h3] at hw
  have HW2 := Lib.hid hw
  have HX := Lib.hid (And.intro hd3 hall)
  clear hd3 hsl hd4 hall hne hw
  go_wp2_with fail
  refine HW2.out.mono ?_
  rintro e w4 ⟨rfl, hd5, hf5⟩
  have hall := hd5.all
  have hkl := Sb.lit w4 [false, true] (by decide)
  have hd6 := hd5.keep ((Fp.refl Non w4).alloc (.cells ([false, true].map Value.bool).toArray 4)) (fun _ _ h => h)
  have hne : 0 < [false, true].length → ∀ k, (Value.slice (some ⟨w4.heap.size, 0, none⟩) [false, true].length [false, true].length).ownBlock = some k → ¬ own3 b g m k := fun _ k hk ho => by
    have := hall k ho; simp [Value.ownBlock] at hk; omega
  have hc := Crash_c hd6 _ [false, true] hkl hne
  change Calls _ _ _ _ (fun e w' => e = _ ∧ Dr _ b g m s2 w' ∧ Fp _ _ _) at hc
  have HC := Lib.hid hc
  have HD5 := Lib.hid (And.intro hd5 hf5)
  clear hall hkl hd6 hne hc hd5 hf5
  go_wp2_with fail
  refine HC.out.mono ?_
  rintro e w5 ⟨rfl, hd7, hf7⟩
  have hr := Read_c hd7 14 4 (by omega)
  rw [h4] at hr
  have HR := Lib.hid hr
  have HD7 := Lib.hid (And.intro hd7 hf7); clear hr hd7 hf7
  go_wp2_with fail
  refine HR.out.mono ?_
  rintro e w6 ⟨sv, rfl, hN6⟩
  have hsl6 := hN6.sl
  obtain ⟨sao, scap, rfl, _, _, hsc⟩ := hsl6.ex
  rcases hsc with ⟨_, h0⟩ | ⟨sg, so, rfl, _, hsc⟩
  · subst h0; simp at *
  have f1 : w6.cell? ⟨sg, so + 1, none⟩ = some (.int .u8 0) := hsc 1 (by decide)
  have f2 : w6.cell? ⟨sg, so + 2, none⟩ = some (.int .u8 2) := hsc 2 (by decide)
  have hall := HX.out.1.all
  have hlo := HL.out.2.1
  have hlt := HL.out.1.own.lt lg rfl
  have hno : ¬ own3 b g m lg := fun ho => by
    have := HD2.out.1.all lg ho; omega
  have f3 : w6.cell? ⟨lg, 1, none⟩ = some (.int .i64 1) := by
    have c3 : w3.cell? ⟨lg, 1, none⟩ = some (.int .i64 1) := HL.out.2.2 1 (by decide)
    have f34 : Fp (own3 b g m) w3 w4 := ((Fp.refl (own3 b g m) w3).alloc _).same HD5.out.2
    have f45 : Fp (own3 b g m) w4 w5 := ((Fp.refl (own3 b g m) w4).alloc _).same HD7.out.2
    exact hN6.fp.cell (f45.cell (f34.cell c3 hno) hno) (fun h => h)
  have hd8 := HD7.out.1.keep hN6.fp (fun _ _ h => h)
  have ha := Acts_c hd8
  rw [h5.1] at ha
  have hs := Size_c hd8
  rw [h5.2.1] at hs
  have HA := Lib.hid (And.intro hd8 (And.intro ha hs))
  have H6 := Lib.hid hN6
  clear hsl6 hN6 hsc hall hlo hlt hno hd8 ha hs
  go_wp2_with fail
  refine HA.out.2.1.mono ?_
  rintro e w7 ⟨rfl, rfl⟩
  go_wp2_with fail
  refine HA.out.2.2.mono ?_
  rintro e w7 ⟨rfl, rfl⟩
  go_wp2_with fail
  refine (New_none _ 0 (by omega)).mono ?_
  rintro e w7 ⟨rfl, rfl⟩
  go_wp2
  go_ret
  refine ⟨rfl, ?_⟩
  have hz : ∀ k, own3 b g m k → False ∨ w.heap.size ≤ k := fun k hk => .inr (HD.out.2.2.2 k hk)
  have f12 : Fp Non w w2 := HD.out.2.1.trans HD2.out.2 hz
  have f23 : Fp Non w w3 := f12.then HL.out.1.fp
  have f34 : Fp Non w w4 := (f23.alloc _).trans HD5.out.2 hz
  have f45 : Fp Non w w5 := (f34.alloc _).trans HD7.out.2 hz
  exact f45.then H6.out.fp
end Go.Proofs.Ytiafndcpggngoaa
