/- The disk: what it holds, and its small calls. -/
import Derived.Test.YtankfmlafmjaeaaGreatRo
namespace Go.Proofs.YtankfmlafmjaeaaGreat
set_option maxRecDepth 20000
open Go.RowKit Pm

abbrev dcells (g m : Nat) (s : Dk) : Array Value := #[.slice (some ⟨g, 0, none⟩) s.wet.length s.wet.length, .map (some m), .int .i64 (s.acts : Int), .int .i64 s.fuse, .bool s.off]

/-- A disk: its struct in block b, its sectors in block g, its map in block m. -/
structure Dr (lo b g m : Nat) (s : Dk) (w : World) : Prop where
  rt : Rt s
  low : lo ≤ b ∧ lo ≤ g ∧ lo ≤ m
  ne : b ≠ g ∧ b ≠ m ∧ g ≠ m
  blk : w.heap[b]? = some (.cells (dcells g m s) TD (0, 0))
  row : Rw w g TB s.cur
  mp : Mp w m s.wet s.old

def own3 (b g m : Nat) : Nat → Prop := fun k => k = b ∨ k = g ∨ k = m

section
variable {lo b g m : Nat} {s : Dk} {w w' : World}
theorem Dr.lt (h : Dr lo b g m s w) : b < w.heap.size := (Array.getElem?_eq_some_iff.1 h.blk).1
theorem Dr.all (h : Dr lo b g m s w) : ∀ k, own3 b g m k → lo ≤ k ∧ k < w.heap.size := by
  rintro k (rfl | rfl | rfl)
  · exact ⟨h.low.1, h.lt⟩
  · exact ⟨h.low.2.1, h.row.lt⟩
  · exact ⟨h.low.2.2, h.mp.lt⟩
theorem Dr.keep (h : Dr lo b g m s w) {S : Nat → Prop} (f : Fp S w w') (hS : ∀ k, own3 b g m k → ¬ S k) : Dr lo b g m s w' :=
  ⟨h.rt, h.low, h.ne, f.heap h.blk (hS b (.inl rfl)), h.row.keep f (hS g (.inr (.inl rfl))), h.mp.keep f (hS m (.inr (.inr rfl)))⟩
theorem Dr.c0 (h : Dr lo b g m s w) : w.cell? ⟨b, 0, none⟩ = some (.slice (some ⟨g, 0, none⟩) s.wet.length s.wet.length) := by simp [World.cell?, h.blk]
theorem Dr.c1 (h : Dr lo b g m s w) : w.cell? ⟨b, 1, none⟩ = some (.map (some m)) := by simp [World.cell?, h.blk]
theorem Dr.c2 (h : Dr lo b g m s w) : w.cell? ⟨b, 2, none⟩ = some (.int .i64 (s.acts : Int)) := by simp [World.cell?, h.blk]
theorem Dr.c3 (h : Dr lo b g m s w) : w.cell? ⟨b, 3, none⟩ = some (.int .i64 s.fuse) := by simp [World.cell?, h.blk]
theorem Dr.c4 (h : Dr lo b g m s w) : w.cell? ⟨b, 4, none⟩ = some (.bool s.off) := by simp [World.cell?, h.blk]
theorem Dr.fz (h : Dr lo b g m s w) (j : Nat) : w.frozen? ⟨b, j, none⟩ = false := by have := h.blk; simp [World.frozen?, this]
/-- The struct's numbers turned. -/
theorem Dr.cells (h : Dr lo b g m s w) {a : Nat} {f : Int} {o : Bool} {S : Nat → Prop} (hf : Fp S w w') (hS : ¬ S g ∧ ¬ S m) (hb : w'.heap[b]? = some (.cells (dcells g m { s with acts := a, fuse := f, off := o }) TD (0, 0)))
    (h1 : -1 ≤ f) (h2 : f ≤ 9223372036854775807) : Dr lo b g m { s with acts := a, fuse := f, off := o } w' :=
  ⟨⟨h.rt.lo, h.rt.hi, h.rt.cl, h.rt.ol, h1, h2, h.rt.dry⟩, h.low, h.ne, hb, h.row.keep hf hS.1, h.mp.keep hf hS.2⟩
end

theorem fp_cell (w : World) (b j : Nat) (v : Value) : Fp (fun k => k = b) w (w.setCell ⟨b, j, none⟩ v) := (Fp.refl (fun k => k = b) w).setCell (p := ⟨b, j, none⟩) (.inl rfl) v

/-- power. -/
theorem power_c {lo b g m : Nat} {s : Dk} {w : World} (h : Dr lo b g m s w) :
    Calls Tryz.prog 60 #[.pointer (some ⟨b, 0, none⟩)] w fun e w' => e = .returned (.int .i64 (if (pw s).off then 31 else 0)) ∧ Dr lo b g m (pw s) w' ∧ Fp (fun k => k = b) w w' := by
  have c3 := h.c3
  have c4 := h.c4
  have f4 := h.fz 4
  have hb := h.blk
  have hfin : s.fuse = 0 → Dr lo b g m (pw s) (w.setCell ⟨b, 4, none⟩ (.bool true)) := fun h0 => by
    have := h.cells (w' := w.setCell ⟨b, 4, none⟩ (.bool true)) (a := s.acts) (f := s.fuse) (o := true) (fp_cell w b 4 (.bool true)) ⟨fun e => h.ne.1 e.symm, fun e => h.ne.2.1 e.symm⟩ (by simp [World.setCell, Array.getElem?_modify, hb]) h.rt.f1 h.rt.f2
    unfold pw; rw [h0]; simpa [h0] using this
  have hsame : s.fuse ≠ 0 → pw s = s := fun h0 => by unfold pw; simp [h0]
  by_cases h0 : s.fuse = 0
  · have hoff : (pw s).off = true := by unfold pw; simp [h0]
    have HF := Lib.hid (And.intro (hfin h0) (fp_cell w b 4 (.bool true)))
    have c3' : w.cell? ⟨b, 3, none⟩ = some (.int .i64 0) := by rw [c3, h0]
    rw [hoff]
    have HX := Lib.hid h
    clear hfin hsame c3 h hb hoff
    go_enter Tryz.func60, Tryz.ntmps60
    go_wp2
    go_ret
    exact ⟨rfl, HF.out.1, HF.out.2⟩
  · rw [hsame h0]
    have HF := Lib.hid h
    have g0 : (s.fuse = 0) = False := eq_false h0
    clear hfin hsame h hb
    rcases hoff : s.off with _ | _
    · rw [hoff] at c4
      go_enter Tryz.func60, Tryz.ntmps60
      go_wp2
      go_ret
      exact ⟨rfl, HF.out, Fp.refl _ _⟩
    · rw [hoff] at c4
      go_enter Tryz.func60, Tryz.ntmps60
      go_wp2
      go_ret
      exact ⟨rfl, HF.out, Fp.refl _ _⟩

/-- performed. -/
theorem performed_c {lo b g m : Nat} {s : Dk} {w : World} (h : Dr lo b g m s w) (ha : s.acts ≤ 1000000) :
    Calls Tryz.prog 61 #[.pointer (some ⟨b, 0, none⟩)] w fun e w' => e = .returned (.tuple #[]) ∧ Dr lo b g m (did s) w' ∧ Fp (fun k => k = b) w w' := by
  have c2 := h.c2
  have c3 := h.c3
  have f2 := h.fz 2
  have f3 := h.fz 3
  have hb := h.blk
  have hf2 := h.rt.f2
  have hf1 := h.rt.f1
  have e1 : (((s.acts + 1 : Nat)) : Int) = (s.acts : Int) + 1 := by omega
  by_cases h0 : 0 < s.fuse
  · have g0 : (0 < s.fuse) = True := eq_true h0
    have hfin : Dr lo b g m (did s) ((w.setCell ⟨b, 2, none⟩ (.int .i64 ((s.acts : Int) + 1))).setCell ⟨b, 3, none⟩ (.int .i64 (s.fuse - 1))) := by
      unfold did
      rw [if_pos h0]
      exact h.cells (((fp_cell w b 2 _).same (fp_cell _ b 3 _))) ⟨fun e => h.ne.1 e.symm, fun e => h.ne.2.1 e.symm⟩ (by simp [World.setCell, Array.getElem?_modify, hb]) (by omega) (by omega)
    have HF := Lib.hid (And.intro hfin ((fp_cell w b 2 (.int .i64 ((s.acts : Int) + 1))).same (fp_cell _ b 3 (.int .i64 (s.fuse - 1)))))
    have HX := Lib.hid (And.intro h h0)
    clear hfin h hb e1
    go_enter Tryz.func61, Tryz.ntmps61
    go_wp2
    go_end0
    exact ⟨rfl, HF.out.1, HF.out.2⟩
  · have g0 : (0 < s.fuse) = False := eq_false h0
    have hfin : Dr lo b g m (did s) (w.setCell ⟨b, 2, none⟩ (.int .i64 ((s.acts : Int) + 1))) := by
      unfold did
      rw [if_neg h0]
      exact h.cells (fp_cell w b 2 _) ⟨fun e => h.ne.1 e.symm, fun e => h.ne.2.1 e.symm⟩ (by simp [World.setCell, Array.getElem?_modify, hb]) (by omega) (by omega)
    have HF := Lib.hid (And.intro hfin (fp_cell w b 2 (.int .i64 ((s.acts : Int) + 1))))
    have HX := Lib.hid (And.intro h h0)
    clear hfin h hb e1
    go_enter Tryz.func61, Tryz.ntmps61
    go_wp2
    go_end0
    exact ⟨rfl, HF.out.1, HF.out.2⟩

theorem Size_c {lo b g m : Nat} {s : Dk} {w : World} (h : Dr lo b g m s w) :
    Calls Tryz.prog 27 #[.pointer (some ⟨b, 0, none⟩)] w fun e w' => e = .returned (.int .i64 (s.cur.length : Int)) ∧ w' = w := by
  have c0 := h.c0
  have h1 := h.rt.hi
  have e := h.rt.cl
  have he : (s.cur.length : Int) = (s.wet.length : Int) * 16 := by omega
  rw [he]
  have HX := Lib.hid h
  clear h e he
  go_enter Tryz.func27, Tryz.ntmps27
  go_wp2
  go_ret
  exact ⟨rfl, rfl⟩
theorem Acts_c {lo b g m : Nat} {s : Dk} {w : World} (h : Dr lo b g m s w) :
    Calls Tryz.prog 10 #[.pointer (some ⟨b, 0, none⟩)] w fun e w' => e = .returned (.int .i64 (s.acts : Int)) ∧ w' = w := by
  have c2 := h.c2
  clear h
  go_enter Tryz.func10, Tryz.ntmps10
  go_wp2
  go_ret
  exact ⟨rfl, rfl⟩
theorem Fuse_c {lo b g m : Nat} {s : Dk} {w : World} (h : Dr lo b g m s w) (n : Int) (hn : n ≤ 9223372036854775807) :
    Calls Tryz.prog 11 #[.pointer (some ⟨b, 0, none⟩), .int .i64 n] w fun e w' => e = .returned (.tuple #[]) ∧ Dr lo b g m (dFuse s n) w' ∧ Fp (fun k => k = b) w w' := by
  have f3 := h.fz 3
  have hb := h.blk
  have hfin : Dr lo b g m (dFuse s n) (w.setCell ⟨b, 3, none⟩ (.int .i64 (max n (-1)))) := by
    unfold dFuse
    exact h.cells (fp_cell w b 3 _) ⟨fun e => h.ne.1 e.symm, fun e => h.ne.2.1 e.symm⟩ (by simp [World.setCell, Array.getElem?_modify, hb]) (by omega) (by omega)
  have HF := Lib.hid (And.intro hfin (fp_cell w b 3 (.int .i64 (max n (-1)))))
  have c3 := h.c3
  clear hfin h hb
  by_cases h0 : n < -1
  · have e : max n (-1) = -1 := by omega
    rw [e] at HF
    have g0 : (n < -1) = True := eq_true h0
    have HX := Lib.hid h0; clear h0 e
    go_enter Tryz.func11, Tryz.ntmps11
    go_wp2
    go_end0
    exact ⟨rfl, HF.out.1, HF.out.2⟩
  · have e : max n (-1) = n := by omega
    rw [e] at HF
    have g0 : (n < -1) = False := eq_false h0
    have HX := Lib.hid h0; clear h0 e
    go_enter Tryz.func11, Tryz.ntmps11
    go_wp2
    go_end0
    exact ⟨rfl, HF.out.1, HF.out.2⟩
theorem within_c {lo b g m : Nat} {s : Dk} {w : World} (h : Dr lo b g m s w) (a n : Int) (ha : a ≤ 9223372036854775807) :
    Calls Tryz.prog 54 #[.pointer (some ⟨b, 0, none⟩), .int .i64 a, .int .i64 n] w fun e w' => e = .returned (.bool (decide (fits s a n))) ∧ w' = w := by
  have h1 := h.rt.hi
  have e := h.rt.cl
  have hcl : s.cur.length ≤ 65536 := by omega
  have HX := Lib.hid h
  unfold fits
  by_cases g1 : 0 ≤ a
  · have q1 : (0 ≤ a) = True := eq_true g1
    by_cases g2 : 0 ≤ n
    · have q2 : (0 ≤ n) = True := eq_true g2
      have hwr : wrap64 ((s.cur.length : Int) - a) = (s.cur.length : Int) - a := by unfold wrap64; omega
      have HG := Lib.hid (And.intro g1 (And.intro g2 hwr))
      clear g1 g2 ha e h1 h hwr
      go_enter Tryz.func54, Tryz.ntmps54
      go_wp2_with (go_at_call 27; refine (Size_c HX.out).mono ?_; rintro e w' ⟨rfl, rfl⟩)
      go_ret
      refine ⟨ret_bool ?_, rfl⟩
      simp [HG.out.2.2, HG.out.1, HG.out.2.1]
    · have q2 : (0 ≤ n) = False := eq_false g2
      have HG := Lib.hid (And.intro g1 g2)
      clear g1 g2 ha e h1 h
      go_enter Tryz.func54, Tryz.ntmps54
      go_wp2
      go_ret
      refine ⟨ret_bool ?_, rfl⟩
      simp
  · have q1 : (0 ≤ a) = False := eq_false g1
    have HG := Lib.hid g1
    clear g1 ha e h1 h
    go_enter Tryz.func54, Tryz.ntmps54
    go_wp2
    go_ret
    refine ⟨ret_bool ?_, rfl⟩
    simp
end Go.Proofs.YtankfmlafmjaeaaGreat
