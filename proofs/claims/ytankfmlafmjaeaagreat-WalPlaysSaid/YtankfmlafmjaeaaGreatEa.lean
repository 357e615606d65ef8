/- The document's own disk: what it holds, and its small calls. -/
import Derived.Test.YtankfmlafmjaeaaGreatLa
namespace Go.Proofs.YtankfmlafmjaeaaGreat
set_option maxRecDepth 20000
open Go.RowKit Pm

abbrev TR : TypeId := 40

/-- Cells of block g that read as vs. -/
structure Cl (w : World) (g : Nat) (vs : List Value) : Prop where
  lt : g < w.heap.size
  cell : ∀ j (h : j < vs.length), w.cell? ⟨g, j, none⟩ = some vs[j]
  fz : ∀ j, w.frozen? ⟨g, j, none⟩ = false

theorem frozen_same {a b : World} {g : Nat} (h : b.heap[g]? = a.heap[g]?) (j : Nat) : b.frozen? ⟨g, j, none⟩ = a.frozen? ⟨g, j, none⟩ := by
  simp [World.frozen?, h]
theorem Cl.keep {a b : World} {g : Nat} {vs : List Value} (h : Cl a g vs) {S : Nat → Prop} (f : Fp S a b) (hS : ¬ S g) : Cl b g vs :=
  ⟨Nat.lt_of_lt_of_le h.lt f.size, fun j hj => f.cell (h.cell j hj) hS, fun j => (frozen_same (f.block g h.lt hS) j).trans (h.fz j)⟩
theorem setCell_frozen (w : World) (g i : Nat) (v : Value) (g' j : Nat) : (w.setCell ⟨g, i, none⟩ v).frozen? ⟨g', j, none⟩ = w.frozen? ⟨g', j, none⟩ := by
  unfold World.setCell World.frozen?
  by_cases h : g = g'
  · subst h
    rw [Array.getElem?_modify, if_pos rfl]
    cases hq : w.heap[g]? with
    | none => rfl
    | some o => cases o <;> rfl
  · rw [Array.getElem?_modify, if_neg h]
theorem Cl.set {w : World} {g : Nat} {vs : List Value} (h : Cl w g vs) (j : Nat) (_ : j < vs.length) (v : Value) : Cl (w.setCell ⟨g, j, none⟩ v) g (vs.set j v) := by
  refine ⟨by simpa [World.setCell] using h.lt, fun i hi => ?_, fun i => (setCell_frozen w g j v g i).trans (h.fz i)⟩
  have hi' : i < vs.length := by simpa using hi
  by_cases hij : i = j
  · subst hij
    rw [World.cell?_setCell_same' _ _ _ (by rw [h.cell i hi']; rfl)]
    simp
  · have hne : (⟨g, j, none⟩ : Addr) ≠ ⟨g, i, none⟩ := by intro e; injection e with _ e; omega
    rw [World.cell?_setCell_other _ _ _ _ hne, h.cell i hi']
    simp [Ne.symm hij]
theorem fp_set (w : World) (g j : Nat) (v : Value) : Fp (fun k => k = g) w (w.setCell ⟨g, j, none⟩ v) := fp_cell w g j v

abbrev bcs (l : Bs) : List Value := Lib.byteCells l
abbrev wcs (l : List Bool) : List Value := l.map Value.bool

/-- Where the document's disk lies: its struct, its bytes, its synced bytes, its wet sectors. -/
structure At where
  b : Nat
  g : Nat
  gc : Nat
  o : Nat
  oc : Nat
  t : Nat
  tc : Nat

abbrev rcells (p : At) (s : Dk) : Array Value := #[.slice (some ⟨p.g, 0, none⟩) s.cur.length p.gc, .slice (some ⟨p.o, 0, none⟩) s.old.length p.oc, .slice (some ⟨p.t, 0, none⟩) s.wet.length p.tc, .int .i64 (s.acts : Int), .bool (decide (0 ≤ s.fuse)), .int .i64 (max s.fuse 0), .bool s.off]

structure Rf (lo : Nat) (p : At) (s : Dk) (w : World) : Prop where
  rt : Rt s
  low : lo ≤ p.b ∧ lo ≤ p.g ∧ lo ≤ p.o ∧ lo ≤ p.t
  ne : (p.b ≠ p.g ∧ p.b ≠ p.o ∧ p.b ≠ p.t) ∧ p.g ≠ p.o ∧ p.g ≠ p.t ∧ p.o ≠ p.t
  cap : (s.cur.length ≤ p.gc ∧ p.gc ≤ maxLen) ∧ (s.old.length ≤ p.oc ∧ p.oc ≤ maxLen) ∧ (s.wet.length ≤ p.tc ∧ p.tc ≤ maxLen)
  blk : w.heap[p.b]? = some (.cells (rcells p s) TR (0, 0))
  cur : Cl w p.g (bcs s.cur)
  old : Cl w p.o (bcs s.old)
  wet : Cl w p.t (wcs s.wet)

def own4 (p : At) : Nat → Prop := fun k => k = p.b ∨ k = p.g ∨ k = p.o ∨ k = p.t

section
variable {lo : Nat} {p : At} {s : Dk} {w w' : World}
theorem Rf.lt (h : Rf lo p s w) : p.b < w.heap.size := (Array.getElem?_eq_some_iff.1 h.blk).1
theorem Rf.all (h : Rf lo p s w) : ∀ k, own4 p k → lo ≤ k ∧ k < w.heap.size := by
  rintro k (rfl | rfl | rfl | rfl)
  · exact ⟨h.low.1, h.lt⟩
  · exact ⟨h.low.2.1, h.cur.lt⟩
  · exact ⟨h.low.2.2.1, h.old.lt⟩
  · exact ⟨h.low.2.2.2, h.wet.lt⟩
theorem Rf.keep (h : Rf lo p s w) {S : Nat → Prop} (f : Fp S w w') (hS : ∀ k, own4 p k → ¬ S k) : Rf lo p s w' :=
  ⟨h.rt, h.low, h.ne, h.cap, f.heap h.blk (hS _ (.inl rfl)), h.cur.keep f (hS _ (.inr (.inl rfl))), h.old.keep f (hS _ (.inr (.inr (.inl rfl)))), h.wet.keep f (hS _ (.inr (.inr (.inr rfl))))⟩
theorem Rf.c (h : Rf lo p s w) (j : Nat) : w.cell? ⟨p.b, j, none⟩ = (rcells p s)[j]? := by simp [World.cell?, h.blk]
theorem Rf.fz (h : Rf lo p s w) (j : Nat) : w.frozen? ⟨p.b, j, none⟩ = false := by have := h.blk; simp [World.frozen?, this]
theorem Rf.c0 (h : Rf lo p s w) : w.cell? ⟨p.b, 0, none⟩ = some (.slice (some ⟨p.g, 0, none⟩) s.cur.length p.gc) := h.c 0
theorem Rf.c1 (h : Rf lo p s w) : w.cell? ⟨p.b, 1, none⟩ = some (.slice (some ⟨p.o, 0, none⟩) s.old.length p.oc) := h.c 1
theorem Rf.c2 (h : Rf lo p s w) : w.cell? ⟨p.b, 2, none⟩ = some (.slice (some ⟨p.t, 0, none⟩) s.wet.length p.tc) := h.c 2
theorem Rf.c3 (h : Rf lo p s w) : w.cell? ⟨p.b, 3, none⟩ = some (.int .i64 (s.acts : Int)) := h.c 3
theorem Rf.c4 (h : Rf lo p s w) : w.cell? ⟨p.b, 4, none⟩ = some (.bool (decide (0 ≤ s.fuse))) := h.c 4
theorem Rf.c5 (h : Rf lo p s w) : w.cell? ⟨p.b, 5, none⟩ = some (.int .i64 (max s.fuse 0)) := h.c 5
theorem Rf.c6 (h : Rf lo p s w) : w.cell? ⟨p.b, 6, none⟩ = some (.bool s.off) := h.c 6
/-- The struct turned, the rows as they are. -/
theorem Rf.turn (h : Rf lo p s w) {s' : Dk} (hrt : Rt s') (he : s'.cur = s.cur ∧ s'.old = s.old ∧ s'.wet = s.wet) (f : Fp (fun k => k = p.b) w w') (hb : w'.heap[p.b]? = some (.cells (rcells p s') TR (0, 0))) : Rf lo p s' w' := by
  obtain ⟨e1, e2, e3⟩ := he
  refine ⟨hrt, h.low, h.ne, by rw [e1, e2, e3]; exact h.cap, hb, ?_, ?_, ?_⟩
  · rw [e1]; exact h.cur.keep f (fun e => h.ne.1.1 e.symm)
  · rw [e2]; exact h.old.keep f (fun e => h.ne.1.2.1 e.symm)
  · rw [e3]; exact h.wet.keep f (fun e => h.ne.1.2.2 e.symm)
end

/-- power. -/
theorem Rpower_c {lo : Nat} {p : At} {s : Dk} {w : World} (h : Rf lo p s w) :
    Calls Tryz.prog 63 #[.pointer (some ⟨p.b, 0, none⟩)] w fun e w' => e = .returned (.bool (!(pw s).off)) ∧ Rf lo p (pw s) w' ∧ Fp (fun k => k = p.b) w w' := by
  have c4 := h.c4
  have c5 := h.c5
  have c6 := h.c6
  have f6 := h.fz 6
  have hb := h.blk
  by_cases h0 : s.fuse = 0
  · have e1 : decide (0 ≤ s.fuse) = true := decide_eq_true (by omega)
    have e2 : max s.fuse 0 = 0 := by omega
    have e3 : (pw s).off = true := by unfold pw; simp [h0]
    have hfin : Rf lo p (pw s) (w.setCell ⟨p.b, 6, none⟩ (.bool true)) := by
      refine h.turn h.rt.pw ⟨rfl, rfl, rfl⟩ (fp_cell w p.b 6 _) ?_
      have e4 : (pw s).acts = s.acts ∧ (pw s).fuse = s.fuse ∧ (pw s).cur = s.cur ∧ (pw s).old = s.old ∧ (pw s).wet = s.wet := ⟨rfl, rfl, rfl, rfl, rfl⟩
      simp [World.setCell, Array.getElem?_modify, hb, rcells, e3, e4]
    rw [e1] at c4
    rw [e2] at c5
    rw [e3]
    have HF := Lib.hid (And.intro hfin (fp_cell w p.b 6 (.bool true)))
    clear h hb hfin e1 e2 e3 h0
    go_enter Tryz.func63, Tryz.ntmps63
    go_wp2
    go_ret
    exact ⟨rfl, HF.out.1, HF.out.2⟩
  · have e3 : pw s = s := by unfold pw; simp [h0]
    rw [e3]
    by_cases h1 : 0 ≤ s.fuse
    · have e1 : decide (0 ≤ s.fuse) = true := decide_eq_true h1
      have e2 : (max s.fuse 0 == 0) = false := beq_eq_false_iff_ne.2 (by omega)
      have e4 : (max s.fuse 0 = 0) = False := eq_false (by omega)
      rw [e1] at c4
      have HF := Lib.hid h
      clear h hb e1 e3 h0 h1
      generalize max s.fuse 0 = F at *
      go_enter Tryz.func63, Tryz.ntmps63
      go_wp2
      go_ret
      exact ⟨rfl, HF.out, Fp.refl _ _⟩
    · have e1 : decide (0 ≤ s.fuse) = false := decide_eq_false h1
      rw [e1] at c4
      have HF := Lib.hid h
      clear h hb e1 e3 h0 h1
      go_enter Tryz.func63, Tryz.ntmps63
      go_wp2
      go_ret
      exact ⟨rfl, HF.out, Fp.refl _ _⟩

theorem wrap_acts (n : Nat) (h : n ≤ 1000000000) : wrap64 ((n : Int) + 1) = (n : Int) + 1 := by unfold wrap64; omega
theorem wrap_dec (n : Int) (h : 0 < n) (h2 : n ≤ 9223372036854775807) : wrap64 (n - 1) = n - 1 := by unfold wrap64; omega
/-- did: an act was done, with the power on. -/
theorem Rdid_c {lo : Nat} {p : At} {s : Dk} {w : World} (h : Rf lo p s w) (hz : s.fuse ≠ 0) (ha : s.acts ≤ 1000000000) :
    Calls Tryz.prog 64 #[.pointer (some ⟨p.b, 0, none⟩)] w fun e w' => e = .returned (.int .i64 0) ∧ Rf lo p (did s) w' ∧ Fp (fun k => k = p.b) w w' := by
  have c3 := h.c3
  have c4 := h.c4
  have c5 := h.c5
  have f3 := h.fz 3
  have f5 := h.fz 5
  have hb := h.blk
  have hf2 := h.rt.f2
  by_cases h1 : 0 < s.fuse
  · have e1 : decide (0 ≤ s.fuse) = true := decide_eq_true (by omega)
    have e2 : max s.fuse 0 = s.fuse := by omega
    have hfin : Rf lo p (did s) ((w.setCell ⟨p.b, 3, none⟩ (.int .i64 ((s.acts : Int) + 1))).setCell ⟨p.b, 5, none⟩ (.int .i64 (s.fuse - 1))) := by
      refine h.turn h.rt.did ⟨rfl, rfl, rfl⟩ ((fp_cell w p.b 3 _).same (fp_cell _ p.b 5 _)) ?_
      have e4 : (did s).acts = s.acts + 1 ∧ (did s).fuse = s.fuse - 1 ∧ (did s).cur = s.cur ∧ (did s).old = s.old ∧ (did s).wet = s.wet ∧ (did s).off = s.off := ⟨rfl, by unfold did; simp [h1], rfl, rfl, rfl, rfl⟩
      have e5 : decide (0 ≤ s.fuse - 1) = true := decide_eq_true (by omega)
      have e6 : max (s.fuse - 1) 0 = s.fuse - 1 := by omega
      simp [World.setCell, Array.getElem?_modify, hb, rcells, e4, e6]
      omega
    rw [e1] at c4
    rw [e2] at c5
    have HF := Lib.hid (And.intro hfin ((fp_cell w p.b 3 (.int .i64 ((s.acts : Int) + 1))).same (fp_cell _ p.b 5 (.int .i64 (s.fuse - 1)))))
    have w1 := wrap_acts s.acts ha
    have w2 := wrap_dec s.fuse h1 hf2
    clear h hb hfin e1 e2 hz ha h1 hf2
    go_enter Tryz.func64, Tryz.ntmps64
    go_wp2
    go_ret
    exact ⟨rfl, HF.out.1, HF.out.2⟩
  · have e1 : decide (0 ≤ s.fuse) = false := decide_eq_false (by omega)
    have hfin : Rf lo p (did s) (w.setCell ⟨p.b, 3, none⟩ (.int .i64 ((s.acts : Int) + 1))) := by
      refine h.turn h.rt.did ⟨rfl, rfl, rfl⟩ (fp_cell w p.b 3 _) ?_
      have e4 : (did s).acts = s.acts + 1 ∧ (did s).fuse = s.fuse ∧ (did s).cur = s.cur ∧ (did s).old = s.old ∧ (did s).wet = s.wet ∧ (did s).off = s.off := ⟨rfl, by unfold did; simp [h1], rfl, rfl, rfl, rfl⟩
      simp [World.setCell, Array.getElem?_modify, hb, rcells, e4]
    rw [e1] at c4
    have HF := Lib.hid (And.intro hfin (fp_cell w p.b 3 (.int .i64 ((s.acts : Int) + 1))))
    have w1 := wrap_acts s.acts ha
    clear h hb hfin e1 hz ha h1 hf2
    go_enter Tryz.func64, Tryz.ntmps64
    go_wp2
    go_ret
    exact ⟨rfl, HF.out.1, HF.out.2⟩

/-- Fuse. -/
theorem RFuse_c {lo : Nat} {p : At} {s : Dk} {w : World} (h : Rf lo p s w) (n : Int) (hn : n ≤ 9223372036854775807) :
    Calls Tryz.prog 12 #[.pointer (some ⟨p.b, 0, none⟩), .int .i64 n] w fun e w' => e = .returned (.tuple #[]) ∧ Rf lo p (dFuse s n) w' ∧ Fp (fun k => k = p.b) w w' := by
  have f4 := h.fz 4
  have f5 := h.fz 5
  have c4 := h.c4
  have c5 := h.c5
  have hb := h.blk
  have hfin : Rf lo p (dFuse s n) ((w.setCell ⟨p.b, 4, none⟩ (.bool (decide (0 ≤ n)))).setCell ⟨p.b, 5, none⟩ (.int .i64 (max n 0))) := by
    refine h.turn (h.rt.fuse n hn) ⟨rfl, rfl, rfl⟩ ((fp_cell w p.b 4 _).same (fp_cell _ p.b 5 _)) ?_
    have e4 : (dFuse s n).acts = s.acts ∧ (dFuse s n).fuse = max n (-1) ∧ (dFuse s n).cur = s.cur ∧ (dFuse s n).old = s.old ∧ (dFuse s n).wet = s.wet ∧ (dFuse s n).off = s.off := ⟨rfl, rfl, rfl, rfl, rfl, rfl⟩
    have e5 : decide (0 ≤ max n (-1)) = decide (0 ≤ n) := by apply decide_eq_decide.2; omega
    have e6 : max (max n (-1)) 0 = max n 0 := by omega
    simp [World.setCell, Array.getElem?_modify, hb, rcells, e4, e5, e6]
  have HF := Lib.hid (And.intro hfin ((fp_cell w p.b 4 (.bool (decide (0 ≤ n)))).same (fp_cell _ p.b 5 (.int .i64 (max n 0)))))
  clear h hb hfin hn
  go_enter Tryz.func12, Tryz.ntmps12
  go_wp2
  go_end0
  exact ⟨rfl, HF.out.1, HF.out.2⟩
end Go.Proofs.YtankfmlafmjaeaaGreat
