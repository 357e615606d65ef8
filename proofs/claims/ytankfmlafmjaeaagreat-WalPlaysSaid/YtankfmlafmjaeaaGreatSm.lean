/- Slices of bytes: parts of them, as strings, and what a call with the log's small functions needs. -/
import Derived.Test.YtankfmlafmjaeaaGreatBy
import Derived.Test.YtankfmlafmjaeaaGreatKw
import Derived.Laws.BitsAllLaws
import Derived.Shelf.Bytes.SlCountOne
namespace Go.Proofs.YtankfmlafmjaeaaGreat
set_option maxRecDepth 20000
open Go.RowKit Pm

theorem conv_sl (w : World) (v : Value) (l : Bs) (h : Sl w v l) : (convert 22 9 v).run Tryz.prog w = .ok (.string (B l)) w := by
  obtain ⟨ao, cap, rfl, h1, h2, h3⟩ := h.ex
  rcases h3 with ⟨rfl, rfl⟩ | ⟨g, o, rfl, hg, hc⟩
  · have h0 : l = [] := List.eq_nil_of_length_eq_zero (by omega)
    subst h0
    rw [run_convert_bytes_nil w 22 5 Tryz.underlying22 Tryz.underlying5 _ _ 9 Tryz.underlying9]
    rfl
  · rw [run_convert_bytes_arg w 22 5 Tryz.underlying22 Tryz.underlying5 g o l.length cap (l.map fun x => (x.toNat : Int)) (by simp) ?_ 9 Tryz.underlying9]
    · have : strOfNums (l.map fun x => (x.toNat : Int)) = B l := by
        apply ByteArray.ext; apply Array.toList_inj.1
        rw [strOfNums_data]
        show _ = l
        rw [List.map_map]
        conv => rhs; rw [← List.map_id l]
        apply List.map_congr_left
        intro x _
        simp
      rw [this]
    · intro i hi
      rw [hc i hi]
      simp [List.getD, hi]

theorem small (p : Nat) (h : p ≤ 1000000) : wrap64 (p : Int) = (p : Int) ∧ IntKind.i64.wrap (p : Int) = (p : Int) := by
  constructor
  · unfold wrap64; omega
  · rw [IntKind.wrap_i64]; omega
theorem Sl.below {w : World} {v : Value} {l : Bs} (h : Sl w v l) : ∀ k, v.ownBlock = some k → k < w.heap.size := by
  obtain ⟨ao, cap, rfl, h1, h2, h3⟩ := h.ex
  rcases h3 with ⟨rfl, rfl⟩ | ⟨g, o, rfl, hg, hc⟩
  · intro k hk; cases hk
  · intro k hk; simp [Value.ownBlock] at hk; omega
theorem Sl.lit (w : World) (l : Bs) (hl : l.length ≤ 1000) : Sl (w.alloc (.cells (Lib.byteCells l).toArray 5)) (.slice (some ⟨w.heap.size, 0, none⟩) l.length l.length) l := by
  have := Sl.of_row (Rw.made w 5 l) 0 l.length l.length (by omega) (Nat.le_refl _) (by unfold maxLen; omega)
  rwa [List.drop_zero, List.take_length] at this
/-- A slice that has memory: where it lies. -/
theorem Sl.at {w : World} {v : Value} {l : Bs} (h : Sl w v l) (h0 : 0 < l.length) : ∃ g o cap, v = .slice (some ⟨g, o, none⟩) l.length cap ∧ l.length ≤ cap ∧ cap ≤ maxLen ∧ g < w.heap.size := by
  obtain ⟨ao, cap, rfl, h1, h2, h3⟩ := h.ex
  rcases h3 with ⟨rfl, rfl⟩ | ⟨g, o, rfl, hg, hc⟩
  · omega
  · exact ⟨g, o, cap, rfl, h1, h2, hg⟩
theorem Sl.upto {w : World} {g o len cap : Nat} {l : Bs} (h : Sl w (.slice (some ⟨g, o, none⟩) len cap) l) (n : Nat) (hn : n ≤ l.length) : Sl w (.slice (some ⟨g, o, none⟩) n cap) (l.take n) := by
  obtain ⟨ao, cap', e, h1, h2, h3⟩ := h.ex
  injection e with e1 e2 e3
  subst e1 e2 e3
  have hl : (l.take n).length = n := by rw [List.length_take]; omega
  refine ⟨_, cap, by rw [hl], by rw [hl]; omega, h2, ?_⟩
  rcases h3 with ⟨h0, _⟩ | ⟨g2, o2, e, hg, hc⟩
  · cases h0
  · injection e with e
    injection e with e1 e2
    subst e1 e2
    refine .inr ⟨g, o, rfl, hg, fun j hj => ?_⟩
    rw [hc j (by omega)]
    simp
theorem Sl.from {w : World} {g o cap n0 : Nat} {l : Bs} (h : Sl w (.slice (some ⟨g, o, none⟩) n0 cap) l) (n : Nat) (hn : n ≤ l.length) :
    Sl w (.slice (if cap = n then some ⟨g, o, none⟩ else some ⟨g, o + n, none⟩) (n0 - n) (cap - n)) (l.drop n) := by
  obtain ⟨ao, c, e, h1, h2, h3⟩ := h.ex
  injection e with e1 e2 e3
  subst e1 e2 e3
  have hl : (l.drop n).length = l.length - n := List.length_drop ..
  rcases h3 with ⟨h0, _⟩ | ⟨g2, o2, e, hg, hcl⟩
  · cases h0
  · injection e with e
    injection e with e1 e2
    subst e1 e2
    by_cases hc : cap = n
    · rw [if_pos hc]
      exact ⟨some ⟨g, o, none⟩, cap - n, by rw [hl], by rw [hl]; omega, by omega, .inr ⟨g, o, rfl, hg, fun j hj => by rw [hl] at hj; omega⟩⟩
    · rw [if_neg hc]
      refine ⟨some ⟨g, o + n, none⟩, cap - n, by rw [hl], by rw [hl]; omega, by omega, .inr ⟨g, o + n, rfl, hg, fun j hj => ?_⟩⟩
      rw [Nat.add_assoc, hcl (n + j) (by rw [hl] at hj; omega)]
      simp

/-- How many zeros. -/
theorem count_isZ (l : Bs) : (Lib.countByte (Lib.bytesOf (l.map fun x => (x.toNat : Int))) 0 = l.length) ↔ isZ l = true := by
  have e : Lib.bytesOf (l.map fun x => (x.toNat : Int)) = l := by
    unfold Lib.bytesOf
    rw [List.map_map]
    conv => rhs; rw [← List.map_id l]
    apply List.map_congr_left
    intro x _
    simp
  rw [e]
  unfold Lib.countByte isZ
  rw [List.count_eq_length, List.all_eq_true]
  exact ⟨fun h x hx => by rw [← h x hx]; rfl, fun h x hx => by have := h x hx; simp at this; exact this.symm⟩
def cz (l : Bs) : Nat := Lib.countByte (Lib.bytesOf (l.map fun x => (x.toNat : Int))) 0
theorem cz_le (l : Bs) : cz l ≤ l.length := by
  unfold cz Lib.countByte
  have := List.count_le_length (a := (0 : UInt8)) (l := Lib.bytesOf (l.map fun x => (x.toNat : Int)))
  simpa [Lib.bytesOf] using this

set_option maxHeartbeats 2000000 in
set_option maxRecDepth 1000000 in
theorem Count_c (v : Value) (l : Bs) (b2 d : Nat) (w : World) (h : Sl w v l) (hc2 : w.cell? ⟨b2, 0, none⟩ = some (.int .u8 0)) :
    Calls Tryz.prog 57 #[v, .slice (some ⟨b2, 0, none⟩) 1 d] w fun e w' => e = .returned (.int .i64 (cz l : Int)) ∧ w' = w := by
  obtain ⟨ao, cap, rfl, h1, h2, h3⟩ := h.ex
  rcases h3 with ⟨rfl, rfl⟩ | ⟨g, o, rfl, hg, hc⟩
  · have h0 : l = [] := List.eq_nil_of_length_eq_zero (by omega)
    subst h0
    go_enter Tryz.func57, Tryz.ntmps57
    go_wp2
    rw [run_callFunc_extern Tryz.func71 (by kernel_rfl) (by kernel_rfl) (by kernel_rfl) (e := Extern.BytealgCount.count) (by kernel_rfl), Lib.run_countNil w _ _ 0]
    simp only [Result.andThen]
    rw [Oper.upon_value]
    go_wp2
    go_ret
    exact ⟨rfl, rfl⟩
  · have hcc : ∀ i, i < l.length → w.cell? ⟨g, o + i, none⟩ = some (.int .u8 ((l.map fun x => (x.toNat : Int)).getD i 0)) := fun i hi => by
      rw [hc i hi]; simp [List.getD, hi]
    have hrun := Lib.run_countSlice (P := Tryz.prog) w g o l.length cap (l.map fun x => (x.toNat : Int)) (by simp) hcc 0
    have HR := Lib.hid hrun
    clear hrun hcc hc
    go_enter Tryz.func57, Tryz.ntmps57
    go_wp2
    rw [run_callFunc_extern Tryz.func71 (by kernel_rfl) (by kernel_rfl) (by kernel_rfl) (e := Extern.BytealgCount.count) (by kernel_rfl), HR.out]
    simp only [Result.andThen]
    rw [Oper.upon_value]
    go_wp2
    go_ret
    exact ⟨rfl, rfl⟩

theorem B_eq (a b : Bs) : ((B a).toList == (B b).toList) = decide (a = b) := by
  rw [B_toList, B_toList]
  by_cases h : a = b
  · subst h; simp
  · simp [h]
theorem Equal_c (v u : Value) (a b : Bs) (w : World) (h : Sl w v a) (g : Sl w u b) :
    Calls Tryz.prog 55 #[v, u] w fun e w' => e = .returned (.bool (decide (a = b))) ∧ w' = w := by
  have k1 := conv_sl w v a h
  have k2 := conv_sl w u b g
  have HX := Lib.hid (And.intro h g); clear h g
  go_enter Tryz.func55, Tryz.ntmps55
  go_wp2
  go_ret
  exact ⟨ret_bool (B_eq a b), rfl⟩

theorem length_c (n : Nat) (hn : n ≤ 1000000) (w : World) :
    Calls Tryz.prog 46 #[.int .i64 (n : Int)] w fun e w' => e = .returned (.int .i64 (ln n : Int)) ∧ w' = w := by
  obtain ⟨q, hq⟩ : ∃ q, q = (n + 15) / 16 := ⟨_, rfl⟩
  have e1 : ((n : Int) + 16 - 1) / 16 = (q : Int) := by omega
  have t1 : ((n : Int) + 16 - 1).tdiv 16 = (q : Int) := by rw [Int.tdiv_eq_ediv_of_nonneg (by omega)]; exact e1
  have hr : ((ln n : Nat) : Int) = 16 + (q : Int) * 16 := by unfold ln up; omega
  have hqb : q ≤ 100000 := by omega
  have HX := Lib.hid (And.intro hq e1); clear hq e1
  rw [hr]; clear hr
  go_enter Tryz.func46, Tryz.ntmps46
  go_wp2
  go_ret
  exact ⟨rfl, rfl⟩

theorem blank_c (v : Value) (l : Bs) (w : World) (h : Sl w v l) :
    Calls Tryz.prog 33 #[v] w fun e w' => e = .returned (.bool (isZ l)) ∧ Fp Non w w' := by
  have hfp : Fp Non w (w.alloc (.cells #[.int .u8 0] 5)) := (Fp.refl Non w).alloc _
  have hcell : (w.alloc (.cells #[.int .u8 0] 5)).cell? ⟨w.heap.size, 0, none⟩ = some (.int .u8 0) := by
    rw [cell_of_row _ _ _ _ _ _ (heap_alloc_new w _)]; rfl
  have hC := Count_c v l w.heap.size 1 _ (h.keep hfp (fun _ _ h => h)) hcell
  obtain ⟨ao, cap, hv, _, _, _⟩ := h.ex
  rw [hv] at hC ⊢
  have HC := Lib.hid (And.intro hC hfp)
  have hle := cz_le l
  have hiff : (cz l = l.length) ↔ isZ l = true := count_isZ l
  have HI := Lib.hid (And.intro hle hiff)
  clear hC hfp hcell h hle hiff
  go_enter Tryz.func33, Tryz.ntmps33
  go_wp2_with fail
  refine HC.out.1.mono ?_
  rintro e w1 ⟨rfl, rfl⟩
  go_wp2
  go_ret
  refine ⟨ret_bool ?_, HC.out.2⟩
  cases hz : isZ l with
  | true => have := HI.out.2.2 hz; rw [this]; simp
  | false =>
    have : ¬ cz l = l.length := fun e => by have := HI.out.2.1 e; rw [hz] at this; cases this
    simp; omega
end Go.Proofs.YtankfmlafmjaeaaGreat
