/- Rows of bytes: sectors loaded and stored whole, compared, and copied. -/
import Derived.Test.YtankfmlafmjaeaaGreatMp
namespace Go.Proofs.YtankfmlafmjaeaaGreat
set_option maxRecDepth 20000
open Go.RowKit Pm

/-- Block g holds the bytes l. -/
structure Rw (w : World) (g : Nat) (T : TypeId) (l : Bs) : Prop where
  hp : w.heap[g]? = some (.cells (Lib.byteCells l).toArray T (0, 0))

theorem Rw.lt {w : World} {g : Nat} {T : TypeId} {l : Bs} (h : Rw w g T l) : g < w.heap.size := (Array.getElem?_eq_some_iff.1 h.hp).1
theorem Rw.keep {w w' : World} {g : Nat} {T : TypeId} {l : Bs} (h : Rw w g T l) {S : Nat → Prop} (f : Fp S w w') (hS : ¬ S g) : Rw w' g T l := ⟨f.heap h.hp hS⟩
theorem Rw.cell {w : World} {g : Nat} {T : TypeId} {l : Bs} (h : Rw w g T l) (j : Nat) (hj : j < l.length) : w.cell? ⟨g, j, none⟩ = some (.int .u8 (l[j].toNat : Int)) := by
  rw [cell_of_row w g j _ T (0, 0) h.hp]
  simpa using byteCells_get l j hj
theorem Rw.frozen {w : World} {g : Nat} {T : TypeId} {l : Bs} (h : Rw w g T l) (j : Nat) : w.frozen? ⟨g, j, none⟩ = false := by
  have := h.hp; simp [World.frozen?, this]
theorem Rw.made (w : World) (T : TypeId) (l : Bs) : Rw (w.alloc (.cells (Lib.byteCells l).toArray T)) w.heap.size T l := ⟨heap_alloc_new w _⟩

theorem fp_setRow {w : World} (g : Nat) (cs : Array Value) : Fp (fun k => k = g) w (w.setRow g cs) :=
  ⟨rfl, rfl, rfl, by simp [World.setRow], fun k _ hne => setRow_other w g k cs hne⟩
theorem cells_spl (l : Bs) (o : Nat) (c : Bs) : ((Lib.byteCells l).toArray.toList.take o ++ Lib.byteCells c ++ (Lib.byteCells l).toArray.toList.drop (o + (Lib.byteCells c).length)).toArray = (Lib.byteCells (spl l o c)).toArray := by
  congr 1
  unfold spl Lib.byteCells
  simp
theorem Rw.set {w : World} {g : Nat} {T : TypeId} {l : Bs} (h : Rw w g T l) (l' : Bs) : Rw (w.setRow g (Lib.byteCells l').toArray) g T l' :=
  ⟨setRow_heap w g _ _ T _ h.hp⟩
/-- One byte stored. -/
theorem Rw.byte {w : World} {g : Nat} {T : TypeId} {l : Bs} (h : Rw w g T l) (j : Nat) (c : UInt8) : Rw (w.setCell ⟨g, j, none⟩ (.int .u8 (c.toNat : Int))) g T (l.set j c) := by
  refine ⟨?_⟩
  rw [heap_setCell_same w g j _ T _ h.hp]
  congr 2
  apply Array.toList_inj.1
  rw [Array.toList_setIfInBounds]
  simp [Lib.byteCells, List.map_set]

theorem Tryz.infoBl : (Tryz.prog.info? TB).map (·.size) = some 16 := by kernel_rfl
theorem Tryz.sizeBy : (Tryz.prog.info? 5).map (·.size) = some 1 := by kernel_rfl
theorem szB (w : World) : (sizeOf TB).run Tryz.prog w = .ok 16 w := by
  have := Tryz.infoBl
  cases hq : Tryz.prog.info? TB with
  | none => simp [hq] at this
  | some i =>
    have hs : i.size = 16 := by simpa [hq] using this
    simp [sizeOf, typeInfo, hq, hs]
theorem aggB (w : World) : (isAgg TB).run Tryz.prog w = .ok true w := by
  unfold isAgg
  simp [run_underlying Tryz.underlying63]

/-- A sector, loaded. -/
theorem load_at {w : World} {g : Nat} {T : TypeId} {l : Bs} (h : Rw w g T l) (o : Nat) (ho : o + 16 ≤ l.length) :
    (Instr.loadAt TB (.pointer (some ⟨g, o, none⟩))).run Tryz.prog w = .ok (agv ((l.drop o).take 16)) w := by
  have hl := run_loadCells_list (P := Tryz.prog) w ⟨g, o, none⟩ (Lib.byteCells ((l.drop o).take 16)) (fun j v hv => by
    have hj : j < 16 ∧ j < (l.drop o).length := by
      have := (List.getElem?_eq_some_iff.1 hv).1; simp [Lib.byteCells] at this; simp; omega
    have hlt : o + j < l.length := by have := hj.2; simp at this; omega
    rw [byteCells_get _ j (by simp; omega)] at hv
    rw [Addr.add_lit, h.cell (o + j) hlt, ← hv]
    simp)
  have h16 : (Lib.byteCells ((l.drop o).take 16)).length = 16 := by simp [Lib.byteCells]; omega
  rw [h16] at hl
  simp only [Instr.loadAt, Instr.sureAddr, loadVar, Sem.run_bind, Sem.run_pure, Result.andThen_ok, aggB, if_true, szB, hl]
  rfl
/-- A sector, stored. -/
theorem store_at {w : World} {g : Nat} {T : TypeId} {l : Bs} (h : Rw w g T l) (o : Nat) (c : Bs) (hc : c.length = 16) (ho : o + 16 ≤ l.length) :
    (Instr.storeAt TB (.pointer (some ⟨g, o, none⟩)) (agv c)).run Tryz.prog w = .ok () (w.setRow g (Lib.byteCells (spl l o c)).toArray) := by
  have hst := run_storeCells_at Tryz.prog g o T (Lib.byteCells c) 0 _ w h.hp (by simp [Lib.byteCells]; omega) (byteCells_one c)
  rw [Nat.add_zero, cells_spl] at hst
  have hsz : (agv c).cells.size = 16 := by simp [Value.cells, bcells, Lib.byteCells, hc]
  have hcl : (agv c).cells.toList = Lib.byteCells c := by simp [Value.cells, bcells]
  simp only [Instr.storeAt, Instr.sureAddr, storeVar, Sem.run_bind, Sem.run_pure, Result.andThen_ok, szB, hsz, ne_eq, not_true, if_false, hcl, hst]

/-- Behind copy. -/
structure CpR (g : Nat) (T : TypeId) (l : Bs) (n : Nat) (w : World) (v' : Value) (w' : World) : Prop where
  val : v' = .int .i64 (n : Int)
  row : Rw w' g T l
  fp : Fp (fun k => k = g) w w'
/-- copy, from bytes into a row. -/
theorem copy_at {w : World} {g : Nat} {T : TypeId} {l : Bs} (h : Rw w g T l) (o dLen dCap : Nat) {xv : Value} {s : Bs} (hx : Sl w xv s) (n : Nat) (hn : n = Nat.min s.length dLen) (ho : o + n ≤ l.length) (dp : Option Addr) (hd : 0 < n → dp = some ⟨g, o, none⟩) (ty : TypeId) :
    ∃ v' w', (Builtin.copy_ #[22, 22] ty #[.slice dp dLen dCap, xv]).run Tryz.prog w = .ok v' w' ∧ CpR g T (spl l o (s.take n)) n w v' w' := by
  obtain ⟨ao, cap, rfl, h1, h2, h3⟩ := hx.ex
  have hmin : Nat.min s.length dLen = n := hn.symm
  by_cases h0 : n = 0
  · refine ⟨_, w, run_copy_none (P := Tryz.prog) w 22 22 ty 5 dp ao dLen dCap s.length cap Tryz.underlying22 Tryz.sizeBy (by rw [hmin, h0]), ?_, ?_, Fp.refl _ _⟩
    · rw [h0]; rfl
    · rw [h0, List.take_zero, spl_nil]; exact h
  · have hd' := hd (by omega)
    subst hd'
    have hle : n ≤ s.length := by rw [hn]; exact Nat.min_le_left _ _
    rcases h3 with ⟨rfl, rfl⟩ | ⟨g2, o2, rfl, hg2, hc⟩
    · omega
    · have hl16 : (Lib.byteCells (s.take n)).length = n := by simp [Lib.byteCells]; omega
      refine ⟨_, _, run_copy_row (P := Tryz.prog) w 22 22 ty 5 g o dLen dCap ⟨g2, o2, none⟩ s.length cap _ T (Lib.byteCells (s.take n)) Tryz.underlying22 Tryz.sizeBy h.hp (by rw [hl16, hn])
        (fun j v hv => ?_) (by rw [hl16]; simp [Lib.byteCells]; omega) (byteCells_one _), ?_, ?_, ?_⟩
      · have hj : j < n := by have := (List.getElem?_eq_some_iff.1 hv).1; omega
        rw [byteCells_get _ j (by simp; omega)] at hv
        rw [Addr.add_lit, hc j (by omega), ← hv]
        simp
      · rw [hl16]; rfl
      · rw [cells_spl]; exact h.set _
      · exact fp_setRow _ _

/-- Sectors, compared. -/
theorem part_at (w : World) (l : Bs) (i : Nat) (hi : i < l.length) : (part 5 (Lib.byteCells l).toArray i).run Tryz.prog w = .ok (.int .u8 (l[i].toNat : Int)) w := by
  have ha : (isAgg 5).run Tryz.prog w = .ok false w := by unfold isAgg; simp [run_underlying Tryz.underlying5]
  have hg : (Lib.byteCells l).toArray[i]? = some (.int .u8 (l[i].toNat : Int)) := by simpa using byteCells_get l i hi
  simp only [part, Sem.run_bind, ha, Result.andThen_ok, Bool.false_eq_true, if_false, hg, Sem.run_pure]
theorem szU (w : World) : (sizeOf 5).run Tryz.prog w = .ok 1 w := by
  have := Tryz.sizeBy
  cases hq : Tryz.prog.info? 5 with
  | none => simp [hq] at this
  | some i =>
    have hs : i.size = 1 := by simpa [hq] using this
    simp [sizeOf, typeInfo, hq, hs]
theorem under_array : Tryz.prog.underlying TB = some (.array 16 5) := Tryz.underlying63
theorem eq_at (w : World) (a b : Bs) (ha : a.length = 16) (hb : b.length = 16) (d : Nat) : (Op.equalIn (d + 2) TB (agv a) (agv b)).run Tryz.prog w = .ok (decide (a = b)) w := by
  have key : ∀ (m k : Nat) (w : World), k + m = 16 →
      ((forIn (List.range' k m) (none, PUnit.unit) fun i r => do
        let a1 ← part 5 (Lib.byteCells a).toArray i
        let b1 ← part 5 (Lib.byteCells b).toArray i
        if (!(← Op.equalIn (d + 1) 5 a1 b1)) = true then pure (ForInStep.done (some false, PUnit.unit)) else pure (ForInStep.yield (none, PUnit.unit)) : Sem (Option Bool × PUnit)).run Tryz.prog w) =
      .ok (if a.drop k = b.drop k then none else some false, PUnit.unit) w := by
    intro m
    induction m with
    | zero =>
      intro k w hk
      have e1 : a.drop k = [] := List.drop_eq_nil_of_le (by omega)
      have e2 : b.drop k = [] := List.drop_eq_nil_of_le (by omega)
      simp [e1, e2]
    | succ m ih =>
      intro k w hk
      have hka : k < a.length := by omega
      have hkb : k < b.length := by omega
      have hda := List.drop_eq_getElem_cons hka
      have hdb := List.drop_eq_getElem_cons hkb
      rw [List.range'_succ, List.forIn_cons]
      simp only [Sem.run_bind, part_at w a k hka, part_at w b k hkb, Result.andThen_ok, run_equalIn_int w d 5 .u8 .u8 _ _ Tryz.underlying5]
      by_cases he : a[k] = b[k]
      · have hbq : (((a[k].toNat : Nat) : Int) == ((b[k].toNat : Nat) : Int)) = true := by rw [he]; simp
        simp only [hbq, Bool.not_true, Bool.false_eq_true, if_false, Sem.run_pure, Result.andThen_ok]
        rw [ih (k + 1) w (by omega), hda, hdb, he]
        simp only [List.cons.injEq, true_and]
      · have hne : a[k].toNat ≠ b[k].toNat := fun e => he (UInt8.toNat_inj.1 e)
        have hbq : (((a[k].toNat : Nat) : Int) == ((b[k].toNat : Nat) : Int)) = false := by simp only [beq_eq_false_iff_ne, ne_eq]; omega
        simp only [hbq, Bool.not_false, if_true, Sem.run_pure, Result.andThen_ok]
        rw [hda, hdb, if_neg (fun e => he (List.cons.inj e).1)]
  have := key 16 0 w rfl
  simp only [List.drop_zero] at this
  rw [Op.equalIn]
  simp only [agv, bcells, Sem.run_bind, run_underlying under_array, Result.andThen_ok, szU, Nat.mul_one, Std.Legacy.Range.forIn_eq_forIn_range']
  rw [show ([:16] : Std.Legacy.Range).size = 16 from rfl, this]
  by_cases hab : a = b
  · simp [hab, Result.andThen]
  · simp [hab, Result.andThen]
/-- A new array's zeros. -/
theorem zeros16 : (Lib.byteCells (List.replicate 16 (0 : UInt8))).toArray = #[.int .u8 0, .int .u8 0, .int .u8 0, .int .u8 0, .int .u8 0, .int .u8 0, .int .u8 0, .int .u8 0, .int .u8 0, .int .u8 0, .int .u8 0, .int .u8 0, .int .u8 0, .int .u8 0, .int .u8 0, .int .u8 0] := rfl
theorem neq_at (w : World) (a b : Bs) (ha : a.length = 16) (hb : b.length = 16) : (binOp .neq TB (agv a) (agv b)).run Tryz.prog w = .ok (.bool (!decide (a = b))) w := by
  have h := eq_at w a b ha hb 9998
  unfold agv at h ⊢
  rw [run_neq_struct, h]
  rfl
end Go.Proofs.YtankfmlafmjaeaaGreat
