/- perform and its steps: a step is a function value that turns the disk. -/
import Derived.Test.YtankfmlafmjaeaaGreatLg
import Derived.Shelf.Abstract
import Derived.StillTailTactics
namespace Go.Proofs.YtankfmlafmjaeaaGreat
set_option maxRecDepth 20000
open Go.RowKit Pm

/-- A function value that does to the disk what F does, in whatever world that differs from wc in the disk alone. -/
structure Step (b g m : Nat) (wc : World) (v : Value) (F : Dk → Int × Dk) : Prop where
  ex : ∃ k fi cap, v = .func (.func k) fi cap ∧ Enters Tryz.prog k ∧ ∀ lo s w1, Dr lo b g m s w1 → Fp (own3 b g m) wc w1 → s.acts ≤ 999000 →
    Calls Tryz.prog k (fi ++ cap) w1 fun e w2 => e = .returned (.int .i64 (F s).1) ∧ Dr lo b g m (F s).2 w2 ∧ Fp (own3 b g m) w1 w2
  acts : ∀ s, (F s).2.acts ≤ s.acts + 1
theorem Step.later {b g m : Nat} {wc w : World} {v : Value} {F : Dk → Int × Dk} (h : Step b g m wc v F) (f : Fp Non wc w) : Step b g m w v F := by
  obtain ⟨k, fi, cap, e, h1, h2⟩ := h.ex
  exact ⟨⟨k, fi, cap, e, h1, fun lo s w1 hd hf ha => h2 lo s w1 hd ((f.any (S := own3 b g m)).same hf) ha⟩, h.acts⟩

theorem sync_step (b g m : Nat) (w : World) : Step b g m w (.func (.func 37) #[.pointer (some ⟨b, 0, none⟩)] #[]) dSync :=
  ⟨⟨_, _, _, rfl, enters_of Tryz.func37 (by kernel_rfl) rfl, fun lo s w1 hd _ ha => Sync_c hd (by omega)⟩, acts_sync⟩

theorem wr_acts (a : Nat) (bs : Bs) (s : Dk) : (wr a bs s).2.acts ≤ s.acts + 1 := by
  unfold wr; split
  · exact Nat.le_succ _
  · exact acts_write s a bs

attribute [local irreducible] wpStill

set_option maxHeartbeats 2000000 in
/-- The function value that write makes, called. -/
theorem write1_c {lo q b g m : Nat} {s : Dk} {w : World} (hd : Dr lo b g m s w) (x y z : Nat) (bv : Value) (bs : Bs) (at_ : Nat) (hat : at_ ≤ 1000000) (hc0 : w.cell? ⟨q, 0, none⟩ = some (.pointer (some ⟨b, 0, none⟩)))
    (hx : w.cell? ⟨x, 0, none⟩ = some (.pointer (some ⟨q, 0, none⟩))) (hy : w.cell? ⟨y, 0, none⟩ = some (.int .i64 (at_ : Int))) (hz : w.cell? ⟨z, 0, none⟩ = some bv) (hb : Sl w bv bs) (hn : ∀ k, bv.ownBlock = some k → ¬ own3 b g m k) (ha : s.acts ≤ 999000) :
    Calls Tryz.prog 58 #[.pointer (some ⟨z, 0, none⟩), .pointer (some ⟨x, 0, none⟩), .pointer (some ⟨y, 0, none⟩)] w fun e w' => e = .returned (.int .i64 (wr at_ bs s).1) ∧ Dr lo b g m (wr at_ bs s).2 w' ∧ Fp (own3 b g m) w w' := by
  obtain ⟨ao, cap, hbv, _, _, _⟩ := hb.ex
  unfold wr
  by_cases h0 : bs.length = 0
  · rw [if_pos h0]
    have q1 : ((bs.length : Int) = 0) = True := eq_true (by omega)
    rw [hbv] at hz
    rw [h0] at hz
    have HX := Lib.hid (And.intro hd (And.intro hb hn))
    clear hd hb hn hbv h0 ha hc0 hx hy
    go_enter Tryz.func58, Tryz.ntmps58
    go_wp2
    go_ret
    exact ⟨rfl, HX.out.1, Fp.refl _ _⟩
  · rw [if_neg h0]
    have q1 : ((bs.length : Int) == 0) = false := beq_eq_false_iff_ne.2 (by omega)
    have hf : Fp Non w w.drew := (Fp.refl Non w).drew
    have hw : Calls Tryz.prog 59 #[.pointer (some ⟨b, 0, none⟩), .int .i64 (at_ : Int), bv] w.drew fun e w' => e = .returned (.int .i64 (dWrite s at_ bs).1) ∧ Dr lo b g m (dWrite s at_ bs).2 w' ∧ Fp (own3 b g m) w w' := by
      refine (Write_c (hd.keep hf (fun _ _ h => h)) (at_ : Int) (by omega) bv bs (hb.keep hf (fun _ _ h => h)).zero (fun _ => hn) (by omega)).mono ?_
      rintro e w' ⟨h1, h2, h3⟩
      exact ⟨h1, h2, (hf.any (S := own3 b g m)).same h3⟩
    rw [hbv] at hz hw
    have HW := Lib.hid hw
    have HX := Lib.hid (And.intro hd (And.intro hb hn))
    clear hw hd hb hn hbv h0 ha hf
    go_enter Tryz.func58, Tryz.ntmps58
    go_wp2_with fail
    refine wp_region_still_tail 6 (by kernel_rfl) (by kernel_rfl) ?_
    simp only [List.take_succ_cons, List.take_zero, List.drop_succ_cons, List.drop_zero]
    change wpStill _ _ w.drew _ _ _
    repeat still_step
    refine wpStill_nil ?_
    change wpList _ _ _ _ _ w.drew
    go_wp2_with fail
    refine HW.out.mono ?_
    rintro e w1 ⟨rfl, hd1, hf1⟩
    have HD := Lib.hid (And.intro hd1 hf1)
    clear hd1 hf1
    go_wp2
    go_ret
    exact ⟨rfl, HD.out.1, HD.out.2⟩

/-- The blocks that write makes. -/
def boxes (w : World) (q at_ : Nat) (bv : Value) : World := ((w.alloc (.cells #[.pointer (some ⟨q, 0, none⟩)] 30)).alloc (.cells #[.int .i64 (at_ : Int)] 3)).alloc (.cells #[bv] 22)

set_option maxHeartbeats 1000000 in
/-- write: a step. -/
theorem write_c {q b g m : Nat} {w : World} (at_ : Nat) (bv : Value) (bs : Bs) (hat : at_ ≤ 1000000) (hc0 : w.cell? ⟨q, 0, none⟩ = some (.pointer (some ⟨b, 0, none⟩))) (hb : Sl w bv bs) (hn : ∀ k, bv.ownBlock = some k → ¬ own3 b g m k) (hq : ¬ own3 b g m q) (hlt : ∀ k, own3 b g m k → k < w.heap.size) :
    Calls Tryz.prog 35 #[.pointer (some ⟨q, 0, none⟩), .int .i64 (at_ : Int), bv] w fun e w' => ∃ v, e = .returned v ∧ Fp Non w w' ∧ Step b g m w' v (wr at_ bs) := by
  have hf : Fp Non w (boxes w q at_ bv) := (((Fp.refl Non w).alloc _).alloc _).alloc _
  have hnew : ∀ (w : World) (v : Value) (T : TypeId), (w.alloc (.cells #[v] T)).cell? ⟨w.heap.size, 0, none⟩ = some v := fun w v T => by
    rw [cell_of_row _ _ _ _ _ _ (heap_alloc_new w _)]; rfl
  have hsz : ∀ (w : World) (o : Obj), (w.alloc o).heap.size = w.heap.size + 1 := fun w o => by simp
  have hal : ∀ (w : World) (o : Obj), Fp Non w (w.alloc o) := fun w o => (Fp.refl Non w).alloc o
  have b0 : (boxes w q at_ bv).cell? ⟨w.heap.size, 0, none⟩ = some (.pointer (some ⟨q, 0, none⟩)) :=
    (hal _ _).cell ((hal _ _).cell (hnew w _ _) (fun h => h)) (fun h => h)
  have b1 : (boxes w q at_ bv).cell? ⟨w.heap.size + 1, 0, none⟩ = some (.int .i64 (at_ : Int)) := by
    have := (hal _ (.cells #[bv] 22)).cell (hnew (w.alloc (.cells #[.pointer (some ⟨q, 0, none⟩)] 30)) (.int .i64 (at_ : Int)) 3) (fun h => h)
    rwa [hsz] at this
  have b2 : (boxes w q at_ bv).cell? ⟨w.heap.size + 1 + 1, 0, none⟩ = some bv := by
    have := hnew ((w.alloc (.cells #[.pointer (some ⟨q, 0, none⟩)] 30)).alloc (.cells #[.int .i64 (at_ : Int)] 3)) bv 22
    rwa [hsz, hsz] at this
  have hst : Step b g m (boxes w q at_ bv) (.func (.func 58) #[] #[.pointer (some ⟨w.heap.size + 1 + 1, 0, none⟩), .pointer (some ⟨w.heap.size, 0, none⟩), .pointer (some ⟨w.heap.size + 1, 0, none⟩)]) (wr at_ bs) := by
    refine ⟨⟨_, _, _, rfl, enters_of Tryz.func58 (by kernel_rfl) rfl, fun lo s w1 hd hf1 ha => ?_⟩, wr_acts at_ bs⟩
    have hnw : ∀ j, w.heap.size ≤ j → ¬ own3 b g m j := fun j hj ho => by have := hlt j ho; omega
    exact write1_c hd w.heap.size (w.heap.size + 1) (w.heap.size + 1 + 1) bv bs at_ hat (hf1.cell (hf.cell hc0 (fun h => h)) hq) (hf1.cell b0 (hnw _ (Nat.le_refl _))) (hf1.cell b1 (hnw _ (by show _ ≤ w.heap.size + 1; omega))) (hf1.cell b2 (hnw _ (by show _ ≤ w.heap.size + 1 + 1; omega)))
      ((hb.keep hf (fun _ _ h => h)).keep hf1 hn) hn ha
  have HR := Lib.hid (And.intro hf hst)
  have HX := Lib.hid (And.intro hb (And.intro hn (And.intro hq hlt)))
  unfold boxes at HR
  obtain ⟨ao, cap, hbv, _, _, _⟩ := hb.ex
  rw [hbv] at HR ⊢
  clear hf hsz hnew hal b0 b1 b2 hst hb hn hq hlt hc0
  go_enter Tryz.func35, Tryz.ntmps35
  go_wp2
  go_ret
  exact ⟨_, rfl, HR.out.1, HR.out.2⟩
end Go.Proofs.YtankfmlafmjaeaaGreat
