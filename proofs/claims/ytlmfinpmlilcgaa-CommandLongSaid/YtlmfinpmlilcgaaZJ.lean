/- Texts of this proof, merged. -/
import Derived.Test.YtlmfinpmlilcgaaProg
import Derived.Test.YtlmfinpmlilcgaaZI
import Derived.Test.YtlmfinpmlilcgaaZC
import Derived.Test.YtlmfinpmlilcgaaZH
import Derived.WalkKit
import Derived.WalkSpells
import Derived.WalkLawsBesides
import Derived.Deep.QuietTactic
import Derived.Deep.RegionWith
import Derived.BigQuiet
import Derived.Lib.Hide
import Derived.Lib.AppendStr
import Derived.Lib.UnsafeStr
import Derived.Maps.AppendAt
import Derived.Deep.Upon
import Derived.Test.YtlmfinpmlilcgaaZF
set_option linter.unusedVariables false
set_option linter.unusedSimpArgs false
/- What a call may change, and what a writer and a reader hold: for the walks. -/
namespace Go.Proofs.Ytlmfinpmlilcgaa
set_option maxRecDepth 20000
open Go.RowKit Pm


/-- A slice of bytes that reads as l. -/
structure Sl (w : World) (v : Value) (l : Bs) : Prop where
  ex : ∃ ao cap, v = .slice ao l.length cap ∧ l.length ≤ cap ∧ cap ≤ maxLen ∧
    ((ao = none ∧ cap = 0) ∨ ∃ g o, ao = some ⟨g, o, none⟩ ∧ g < w.heap.size ∧ ∀ j (h : j < l.length), w.cell? ⟨g, o + j, none⟩ = some (.int .u8 (l[j].toNat : Int)))

theorem Sl.keep {S : Nat → Prop} {a b : World} {v : Value} {l : Bs} (h : Sl a v l) (f : Fp S a b) (hS : ∀ k, v.ownBlock = some k → ¬ S k) : Sl b v l := by
  obtain ⟨ao, cap, rfl, h1, h2, h3⟩ := h.ex
  refine ⟨ao, cap, rfl, h1, h2, ?_⟩
  rcases h3 with h3 | ⟨g, o, rfl, hg, hc⟩
  · exact .inl h3
  · exact .inr ⟨g, o, rfl, Nat.lt_of_lt_of_le hg f.size, fun j hj => f.cell (hc j hj) (hS g rfl)⟩

theorem byteCells_get (l : Bs) (j : Nat) (h : j < l.length) : (Lib.byteCells l)[j]? = some (.int .u8 (l[j].toNat : Int)) := by simp [Lib.byteCells, h]
theorem byteCells_one (l : Bs) : ∀ u ∈ Lib.byteCells l, u.oneCell' = true := by
  intro u hu; obtain ⟨_, _, rfl⟩ := List.mem_map.1 hu; rfl

theorem Sl.of_owns {w : World} {lo : Nat} {v : Value} {l : Bs} (h : w.ownsRow lo 5 1 v l.length (Lib.byteCells l)) : Sl w v l := by
  have hc := fun g hg => h.cells (g := g) hg
  rcases h.2 with ⟨rfl, h0⟩ | ⟨g, cap, cur, rfl, hb, hgg, r1, r2, r3⟩
  · exact ⟨none, 0, by rw [h0], by omega, by unfold maxLen; omega, .inl ⟨rfl, rfl⟩⟩
  · refine ⟨_, cap, rfl, r1, r2, .inr ⟨g, 0, rfl, (Array.getElem?_eq_some_iff.1 hgg).1, fun j hj => ?_⟩⟩
    have := hc g rfl j _ (byteCells_get l j hj)
    simpa [Addr.add_lit] using this

theorem Sl.nil (w : World) : Sl w (.slice none 0 0) [] := ⟨none, 0, rfl, Nat.le_refl _, Nat.zero_le _, .inl ⟨rfl, rfl⟩⟩

/-- Behind an append. -/
structure AppR (lo : Nat) (v : Value) (l : Bs) (w : World) (v' : Value) (w' : World) : Prop where
  own : w'.ownsRow lo 5 1 v' l.length (Lib.byteCells l)
  grown : w.grownBy w' v.ownBlock
  at' : v'.ownBlock = v.ownBlock ∨ v'.ownBlock = some w.heap.size

theorem AppR.shape {lo : Nat} {v : Value} {l : Bs} {w : World} {v' : Value} {w' : World} (h : AppR lo v l w v' w') : ∃ ao n cap, v' = .slice ao n cap := by
  rcases h.own.2 with ⟨hv, _⟩ | ⟨g, cap, cur, hv, _⟩
  · exact ⟨_, _, _, hv⟩
  · exact ⟨_, _, _, hv⟩

theorem app_nothing (w : World) (lo : Nat) (v : Value) (l : Bs) (ho : w.ownsRow lo 5 1 v l.length (Lib.byteCells l)) (tx ty : TypeId) (x : Value) (hs : Src Try.prog 1 tx x 0 [] w) :
    (Builtin.append_ #[32, tx] ty #[v, x]).run Try.prog w = .ok v w := by
  obtain ⟨i, hi, hz, hsz, hby⟩ := info_parts Try.infoBy
  have hs' : Src Try.prog i.size tx x 0 [] w := by rw [hsz]; exact hs
  rcases ho.2 with ⟨rfl, _⟩ | ⟨g, cap, cur, rfl, hb, hgg, r1, r2, r3⟩
  · exact run_append_nothing w _ _ _ _ i Try.underlying32 hi none 0 0 (Nat.le_refl _) x hs'
  · exact run_append_nothing w _ _ _ _ i Try.underlying32 hi _ _ _ r1 x hs'

/-- append(v, x...) of a slice of the call's own, x a slice of bytes. -/
theorem app_sl (w : World) (lo : Nat) (v : Value) (l s : Bs) (ty : TypeId) (x : Value) (ho : w.ownsRow lo 5 1 v l.length (Lib.byteCells l)) (hx : Sl w x s) (hn : l.length + s.length ≤ 100000000) (hlo : lo ≤ w.heap.size) :
    ∃ v' w', (Builtin.append_ #[32, 32] ty #[v, x]).run Try.prog w = .ok v' w' ∧ AppR lo v (l ++ s) w v' w' := by
  obtain ⟨i, hi, hz, hsz, hby⟩ := info_parts Try.infoBy
  obtain ⟨ao, cap, rfl, h1, h2, h3⟩ := hx.ex
  rcases h3 with ⟨rfl, rfl⟩ | ⟨g, o, rfl, hg, hc⟩
  · have h0 : s = [] := List.eq_nil_of_length_eq_zero (by omega)
    subst h0
    refine ⟨v, w, app_nothing w lo v l ho _ _ _ (Src.ofNil w Try.underlying32 0), by rw [List.append_nil]; exact ho, ⟨rfl, rfl, rfl, Nat.le_refl _, fun _ _ _ => rfl⟩, .inl rfl⟩
  · obtain ⟨v', w', hr, h4, h5, _, h6⟩ := run_append_own_at (P := Try.prog) w lo 32 ty 5 i (.int .u8 0) 1 1 Try.underlying32 hi hz hsz hby rfl (by decide) v l.length (Lib.byteCells l) ho
      ⟨g, o, none⟩ s.length cap (Lib.byteCells s) (by rw [Lib.byteCells_length]; omega)
      (fun j u hu => by
        have hj : j < s.length := by have := (List.getElem?_eq_some_iff.1 hu).1; rwa [Lib.byteCells_length] at this
        rw [byteCells_get s j hj] at hu
        rw [Addr.add_lit, hc j hj]; exact hu)
      (byteCells_one s) (by unfold maxLen; omega) (by omega) hlo
    exact ⟨v', w', hr, by rw [List.length_append, Lib.byteCells_append]; exact h4, h5, h6⟩

theorem Sl.byte (w : World) (c : UInt8) : Sl (w.alloc (.cells #[.int .u8 (c.toNat : Int)] 5)) (.slice (some ⟨w.heap.size, 0, none⟩) 1 1) [c] := by
  refine ⟨_, 1, rfl, Nat.le_refl _, by unfold maxLen; omega, .inr ⟨w.heap.size, 0, rfl, by simp, fun j hj => ?_⟩⟩
  obtain rfl : j = 0 := by simpa using hj
  simp

/-- append(v, c): the byte lies in the block that was laid for it. -/
theorem app_byte (w : World) (lo : Nat) (v : Value) (l : Bs) (c : Nat) (ty : TypeId) (hc : c < 256) (ho : w.ownsRow lo 5 1 v l.length (Lib.byteCells l)) (hn : l.length ≤ 90000000) (hlo : lo ≤ w.heap.size) :
    ∃ v' w', (Builtin.append_ #[32, 32] ty #[v, .slice (some ⟨w.heap.size, 0, none⟩) 1 1]).run Try.prog (w.alloc (.cells #[.int .u8 (c : Int)] 5)) = .ok v' w' ∧ AppR lo v (l ++ [dg c]) (w.alloc (.cells #[.int .u8 (c : Int)] 5)) v' w' := by
  have hx := Sl.byte w (dg c)
  rw [dg_toNat c hc] at hx
  exact app_sl _ lo v l [dg c] ty _ (ho.alloc _) hx (by simp; omega) (by simp; omega)

/-- append(v, s...) of a string. -/
theorem app_text (w : World) (lo : Nat) (v : Value) (l s : Bs) (ty : TypeId) (ho : w.ownsRow lo 5 1 v l.length (Lib.byteCells l)) (hn : l.length + s.length ≤ 100000000) (hlo : lo ≤ w.heap.size) :
    ∃ v' w', (Builtin.append_ #[32, 9] ty #[v, .string (B s)]).run Try.prog w = .ok v' w' ∧ AppR lo v (l ++ s) w v' w' := by
  obtain ⟨i, hi, hz, hsz, hby⟩ := info_parts Try.infoBy
  have hBs : (B s).size = s.length := B_size s
  have hcs : Lib.strCells (B s) = Lib.byteCells s := by rw [Lib.strCells_eq]; rfl
  obtain ⟨v', w', hr, h4, h5, _⟩ := Lib.run_append_own_string (P := Try.prog) w lo 32 9 ty 5 i Try.underlying32 Try.underlying9 hi hz hsz hby v l.length (Lib.byteCells l) ho (B s) (by rw [hBs]; unfold maxLen; omega) (by rw [hBs]; omega) hlo
  refine ⟨v', w', hr, ⟨by rw [List.length_append, Lib.byteCells_append, ← hcs, ← hBs]; exact h4, h5, ?_⟩⟩
  by_cases h0 : s = []
  · subst h0
    have := app_nothing w lo v l ho 9 ty (.string (B [])) (by have := Src.ofString (P := Try.prog) w Try.underlying9 (B []); exact this)
    rw [this] at hr
    injection hr with hr _
    exact .inl (by rw [hr])
  · have hpos : 0 < s.length := List.length_pos_iff.2 h0
    rcases ho.2 with ⟨rfl, hz0⟩ | ⟨g, cap, cur, rfl, hb, hgg, r1, r2, r3, r4⟩
    · have := run_append_nil_string (P := Try.prog) w 32 9 ty 5 i (.int .u8 0) Try.underlying32 Try.underlying9 hi hz (B s) (by omega) (by omega) (by rw [hby]; omega)
      rw [this] at hr
      injection hr with hr _
      exact .inr (by rw [← hr]; rfl)
    · by_cases hroom : l.length + (B s).size ≤ cap
      · have := Lib.run_append_room_string (P := Try.prog) w 32 9 ty 5 i Try.underlying32 Try.underlying9 hi hsz g l.length cap cur hgg (B s) hroom (by rw [r3]; omega)
        rw [this] at hr
        injection hr with hr _
        exact .inl (by rw [← hr]; rfl)
      · have := Lib.run_append_grow_string (P := Try.prog) w 32 9 ty 5 i (.int .u8 0) Try.underlying32 Try.underlying9 hi hz ⟨g, 0, none⟩ l.length cap (Lib.byteCells l) (by rw [hsz, Lib.byteCells_length]; omega) (ho.cells rfl) (B s) (by omega) (by omega)
          (growslice_fits (by omega) (by rw [hby]; omega))
        rw [this] at hr
        injection hr with hr _
        exact .inr (by rw [← hr]; rfl)

/-- A slice of strings that reads as ps. -/
structure Ss (w : World) (v : Value) (ps : List Bs) : Prop where
  ex : ∃ ao cap, v = .slice ao ps.length cap ∧ ps.length ≤ cap ∧ cap ≤ maxLen ∧
    (cap = 0 ∨ ∃ g o, ao = some ⟨g, o, none⟩ ∧ g < w.heap.size ∧ ∀ j (h : j < ps.length), w.cell? ⟨g, o + j, none⟩ = some (.string (B ps[j])))

theorem Ss.keep {S : Nat → Prop} {a b : World} {v : Value} {ps : List Bs} (h : Ss a v ps) (f : Fp S a b) (hS : 0 < ps.length → ∀ k, v.ownBlock = some k → ¬ S k) : Ss b v ps := by
  obtain ⟨ao, cap, rfl, h1, h2, h3⟩ := h.ex
  refine ⟨ao, cap, rfl, h1, h2, ?_⟩
  rcases h3 with h3 | ⟨g, o, rfl, hg, hc⟩
  · exact .inl h3
  · exact .inr ⟨g, o, rfl, Nat.lt_of_lt_of_le hg f.size, fun j hj => f.cell (hc j hj) (hS (by omega) g rfl)⟩
theorem Ss.nil (w : World) : Ss w (.slice none 0 0) [] := ⟨none, 0, rfl, Nat.le_refl _, Nat.zero_le _, .inl rfl⟩

/-- Bytes in memory of the call's own, new since w. -/
structure Nw (w w' : World) (v : Value) (l : Bs) : Prop where
  own : w'.ownsRow w.heap.size 5 1 v l.length (Lib.byteCells l)
  fp : Fp Non w w'

theorem Nw.sl {w w' : World} {v : Value} {l : Bs} (h : Nw w w' v l) : Sl w' v l := Sl.of_owns h.own
theorem Nw.nil (w : World) : Nw w w (.slice none 0 0) [] := ⟨World.ownsRow_nil _ _ _ _, Fp.refl _ _⟩
theorem Nw.shape {w w' : World} {v : Value} {l : Bs} (h : Nw w w' v l) : ∃ ao cap, v = .slice ao l.length cap := by
  rcases h.own.2 with ⟨hv, h0⟩ | ⟨g, cap, cur, hv, _⟩
  · exact ⟨none, 0, by rw [hv, h0]⟩
  · exact ⟨_, _, hv⟩

/-! A writer: its bytes, and whether a number was wrong. -/
def own2 (b : Nat) (v : Value) : Nat → Prop := fun k => k = b ∨ v.ownBlock = some k

structure Wr (T : TypeId) (lo b : Nat) (v : Value) (l : Bs) (bad : Bool) (w : World) : Prop where
  low : lo ≤ b
  blk : w.heap[b]? = some (.cells #[v, .bool bad] T (0, 0))
  own : w.ownsRow lo 5 1 v l.length (Lib.byteCells l)
  apart : v.ownBlock ≠ some b

theorem Wr.lt {T : TypeId} {lo b : Nat} {v : Value} {l : Bs} {bad : Bool} {w : World} (h : Wr T lo b v l bad w) : b < w.heap.size := (Array.getElem?_eq_some_iff.1 h.blk).1
theorem Wr.all {T : TypeId} {lo b : Nat} {v : Value} {l : Bs} {bad : Bool} {w : World} (h : Wr T lo b v l bad w) : ∀ k, own2 b v k → lo ≤ k ∧ k < w.heap.size := by
  intro k hk
  rcases hk with rfl | hk
  · exact ⟨h.low, h.lt⟩
  · exact h.own.lt k hk
theorem Wr.cell0 {T : TypeId} {lo b : Nat} {v : Value} {l : Bs} {bad : Bool} {w : World} (h : Wr T lo b v l bad w) : w.cell? ⟨b, 0, none⟩ = some v := by simp [World.cell?, h.blk]
theorem Wr.cell1 {T : TypeId} {lo b : Nat} {v : Value} {l : Bs} {bad : Bool} {w : World} (h : Wr T lo b v l bad w) : w.cell? ⟨b, 1, none⟩ = some (.bool bad) := by simp [World.cell?, h.blk]
theorem Wr.keep {T : TypeId} {lo b : Nat} {v : Value} {l : Bs} {bad : Bool} {w w' : World} (h : Wr T lo b v l bad w) {S : Nat → Prop} (f : Fp S w w') (hS : ∀ k, own2 b v k → ¬ S k) : Wr T lo b v l bad w' :=
  ⟨h.low, f.heap h.blk (hS b (.inl rfl)), f.owns h.own (fun k hk => hS k (.inr hk)), h.apart⟩
theorem Wr.ofheap {T : TypeId} {lo b : Nat} {v : Value} {l : Bs} {bad : Bool} {w : World} (h : Wr T lo b v l bad w) : w.frozen? ⟨b, 0, none⟩ = false ∧ w.frozen? ⟨b, 1, none⟩ = false := by
  have := h.blk; constructor <;> simp [World.frozen?, this]

theorem Wr.shape {T : TypeId} {lo b : Nat} {v : Value} {l : Bs} {bad : Bool} {w : World} (h : Wr T lo b v l bad w) : ∃ ao n cap, v = .slice ao n cap := by
  rcases h.own.2 with ⟨hv, _⟩ | ⟨g, cap, cur, hv, _⟩
  · exact ⟨_, _, _, hv⟩
  · exact ⟨_, _, _, hv⟩

/-- A step of a writer: what it holds then; what else was changed: nothing. -/
def WrStep (T : TypeId) (lo b : Nat) (v : Value) (l : Bs) (bad : Bool) (w w' : World) : Prop :=
  ∃ v', Wr T lo b v' l bad w' ∧ Fp (own2 b v) w w' ∧ ∀ k, v'.ownBlock = some k → v.ownBlock = some k ∨ w.heap.size ≤ k

theorem WrStep.refl {T : TypeId} {lo b : Nat} {v : Value} {l : Bs} {bad : Bool} {w : World} (h : Wr T lo b v l bad w) : WrStep T lo b v l bad w w := ⟨v, h, Fp.refl _ _, fun _ h => .inl h⟩

theorem own2_next {b : Nat} {v v' : Value} {n : Nat} (h : ∀ k, v'.ownBlock = some k → v.ownBlock = some k ∨ n ≤ k) : ∀ k, own2 b v' k → own2 b v k ∨ n ≤ k := by
  intro k hk
  rcases hk with rfl | hk
  · exact .inl (.inl rfl)
  · exact (h k hk).elim (fun h => .inl (.inr h)) .inr

/-- Store into the first field what an append made. -/
theorem Wr.put {T : TypeId} {lo b : Nat} {v : Value} {l x : Bs} {bad : Bool} {w w1 w2 : World} (h : Wr T lo b v l bad w) (f : Fp Non w w1) {v' : Value} (r : AppR lo v (l ++ x) w1 v' w2) :
    w2.heap[b]? = some (.cells #[v, .bool bad] T (0, 0)) ∧ WrStep T lo b v (l ++ x) bad w (w2.setCell ⟨b, 0, none⟩ v') := by
  have h1 := h.keep f (fun _ _ h => h)
  have hb2 : w2.heap[b]? = some (.cells #[v, .bool bad] T (0, 0)) := by rw [r.grown.block b h1.lt (fun e => h.apart e.symm)]; exact h1.blk
  have hne : v'.ownBlock ≠ some b := by
    rcases r.at' with e | e
    · rw [e]; exact h.apart
    · rw [e]; intro he; have := h1.lt; simp at he; omega
  have hf : Fp (own2 b v) w w2 := (f.any).grown r.grown (fun k hk => .inl (.inr hk))
  refine ⟨hb2, v', ⟨h.low, ?_, ?_, hne⟩, hf.setCell (p := ⟨b, 0, none⟩) (.inl (.inl rfl)) _, ?_⟩
  · simp [World.setCell, Array.getElem?_modify, hb2]
  · refine (Fp.refl (fun k => k = b) w2).setCell (p := ⟨b, 0, none⟩) (.inl rfl) v' |>.owns r.own (fun k hk e => hne (by rw [← e]; exact hk))
  · intro k hk
    rcases r.at' with e | e
    · exact .inl (by rw [← e]; exact hk)
    · right; rw [e] at hk; simp at hk; have := f.size; omega

theorem WrStep.trans {T : TypeId} {lo b : Nat} {v : Value} {l l' : Bs} {bad bad' : Bool} {a c d : World} (h : WrStep T lo b v l bad a c) (g : ∀ v', Wr T lo b v' l bad c → WrStep T lo b v' l' bad' c d) : WrStep T lo b v l' bad' a d := by
  obtain ⟨v1, h1, h2, h3⟩ := h
  obtain ⟨v2, g1, g2, g3⟩ := g v1 h1
  refine ⟨v2, g1, h2.trans g2 (own2_next h3), ?_⟩
  intro k hk
  rcases g3 k hk with e | e
  · exact h3 k e
  · right; have := h2.size; omega

theorem WrStep.then {T : TypeId} {lo b : Nat} {v : Value} {l : Bs} {bad : Bool} {a c d : World} (h : WrStep T lo b v l bad a c) (g : Fp Non c d) : WrStep T lo b v l bad a d := by
  obtain ⟨v1, h1, h2, h3⟩ := h
  exact ⟨v1, h1.keep g (fun _ _ h => h), h2.then g, h3⟩
theorem WrStep.first {T : TypeId} {lo b : Nat} {v : Value} {l : Bs} {bad : Bool} {a c d : World} (g : Fp Non a c) (h : WrStep T lo b v l bad c d) : WrStep T lo b v l bad a d := by
  obtain ⟨v1, h1, h2, h3⟩ := h
  refine ⟨v1, h1, (g.any (S := own2 b v)).same h2, fun k hk => (h3 k hk).imp id (fun h => Nat.le_trans g.size h)⟩

end Go.Proofs.Ytlmfinpmlilcgaa

/- Commands in memory; numbers, paths, pieces: may they be? -/
namespace Go.Proofs.Ytlmfinpmlilcgaa
set_option maxRecDepth 20000
set_option linter.unusedVariables false
set_option linter.unusedSimpArgs false
open Go.RowKit Pm

def inC (n : Int) : List Value := [.int .i64 n]
def peC (x : Pe) : List Value := .int .i64 x.op :: ptC x.p
theorem inC_len (n : Int) : (inC n).length = 1 := rfl
theorem peC_len (x : Pe) : (peC x).length = 8 := rfl
theorem peC_one (x : Pe) : ∀ u ∈ peC x, u.oneCell' = true := by
  intro u hu; unfold peC at hu; rcases List.mem_cons.1 hu with rfl | h
  · rfl
  · exact ptC_one x.p u h

/-- A row in a block of its own. -/
theorem Sg.block {α : Type} {enc : α → List Value} {k : Nat} (hk : ∀ x, (enc x).length = k) {w : World} {g : Nat} {cs : Array Value} {T : TypeId} {l : List α} (h : w.heap[g]? = some (.cells cs T (0, 0))) (hcs : cs.toList = rowsG enc l) (c : Nat) :
    Sg enc k w (.slice (some ⟨g, 0, none⟩) l.length c) l := by
  refine ⟨_, c, rfl, .inr ⟨g, 0, rfl, fun i hi => ⟨fun j v hv => ?_⟩⟩⟩
  have hj : j < k := by rw [← hk l[i]]; exact (List.getElem?_eq_some_iff.1 hv).1
  rw [← rowsG_get hk l i j hi hj, ← hcs] at hv
  rw [cell_of_row w g _ _ T (0, 0) h, Nat.zero_add]
  rw [← hv]; simp

abbrev TCD : TypeId := 31
/-- A command's cells. -/
def cdL (c : Cd) (vp vn vt vg : Value) : Array Value :=
  #[.int .i64 c.kind, .int .i64 c.id, .int .i64 c.txn, .int .i64 c.age, .bool c.yes, vp, .string (B c.pre), .int .i64 c.ep, .int .i64 c.to, vn, vt, vg, .int .i64 c.ws, .int .i64 c.wn, .string (B c.wp), .bool c.deep]
structure CdW (w : World) (v : Value) (c : Cd) : Prop where
  ex : ∃ vp vn vt vg, v = .agg (cdL c vp vn vt vg) ∧ Sg peC 8 w vp c.ps ∧ Ns w vn c.st.nodes ∧ Ts w vt c.st.turns ∧ Tx w vg c.gone
theorem CdW.non {w w' : World} {v : Value} {c : Cd} (h : CdW w v c) (f : Fp Non w w') : CdW w' v c := by
  obtain ⟨vp, vn, vt, vg, e, h1, h2, h3, h4⟩ := h.ex
  exact ⟨vp, vn, vt, vg, e, h1.non f, h2.non f, h3.non f, h4.non f⟩
/-- Not too great for the calls. -/
structure Fw (c : Cd) : Prop where
  pre : c.pre.length ≤ 1000000
  wp : c.wp.length ≤ 1000000
  psn : c.ps.length ≤ 1000000
  ps : ∀ x ∈ c.ps, x.p.dir.length ≤ 1000000 ∧ x.p.path.length ≤ 1000000 ∧ x.p.data.length ≤ 1000000
  nn : c.st.nodes.length ≤ 1000000
  nodes : ∀ x ∈ c.st.nodes, x.path.length ≤ 1000000 ∧ x.data.length ≤ 1000000
  tn : c.st.turns.length ≤ 1000000
  turns : ∀ x ∈ c.st.turns, x.dir.length ≤ 1000000
  gn : c.gone.length ≤ 1000000
  gone : ∀ x ∈ c.gone, x.length ≤ 1000000

theorem isPe_c (p : Bs) (w : World) (hl : p.length ≤ 1000000) :
    Calls Try.prog 18 #[.string (B p)] w fun e w' => e = .returned (.bool (isPe p)) ∧ Fp Non w w' := by
  cases p with
  | nil =>
    go_enter Try.func18, Try.ntmps18
    go_wp2
    go_ret
    exact ⟨rfl, Fp.refl _ _⟩
  | cons c r =>
    have hr := Right_g (c :: r) w (sz_of hl (by omega))
    have he : isPe (c :: r) = (split (c :: r)).isSome := by simp [isPe]
    rw [he]
    generalize (split (c :: r)).isSome = b at hr ⊢
    have HR := Lib.hid hr
    clear hr he
    go_enter Try.func18, Try.ntmps18
    go_wp2_with fail
    refine HR.out.mono ?_
    rintro e w1 ⟨rfl, hg⟩
    have HG := Lib.hid hg.fp
    clear hg
    cases b <;> (go_wp2; go_ret; exact ⟨rfl, HG.out⟩)

set_option maxHeartbeats 2000000 in
theorem areNums_c (v : Value) (l : List Int) (w : World) (hv : Sg inC 1 w v l) (hl : l.length ≤ 1000000) :
    Calls Try.prog 17 #[v] w fun e w' => e = .returned (.bool (areNum l)) ∧ Fp Non w w' := by
  obtain ⟨ao, cap, rfl⟩ := hv.shape
  obtain ⟨n, hnn⟩ : ∃ n, n = l.length := ⟨_, rfl⟩
  obtain ⟨r, hr⟩ : ∃ r, areNum l = r := ⟨_, rfl⟩
  have hall : (∀ k (h : k < l.length), num l[k]) → r = true := fun h => by
    rw [← hr]; unfold areNum; rw [List.all_eq_true]; intro x hx; obtain ⟨i, hi, rfl⟩ := List.getElem_of_mem hx; exact decide_eq_true (h i hi)
  have hnone : ∀ k (h : k < l.length), ¬ num l[k] → r = false := fun k h hn => by
    rw [← hr]; apply Bool.eq_false_iff.2; intro h2; unfold areNum at h2; rw [List.all_eq_true] at h2; exact hn (of_decide_eq_true (h2 _ (List.getElem_mem h)))
  have HX := Lib.hid (And.intro hnn (And.intro hv (And.intro hall hnone)))
  have hnb : n ≤ 1000000 := by omega
  rw [hr, ← hnn]
  clear hv hnn hr hall hnone hl
  go_enter Try.func17, Try.ntmps17
  go_wp2_with fail
  go_loopw [7] (fun i wr => ∃ k : Nat, k ≤ n ∧ i = .int .i64 k ∧ Hid (Fp Non w wr ∧ ∀ j (h : j < l.length), j < k → num l[j])) (fun i _ => n - (RowKit.intOf i).toNat)
  case atStart => exact ⟨0, Nat.zero_le _, rfl, Fp.refl _ _, fun j _ h => absurd h (Nat.not_lt_zero j)⟩
  case round =>
    obtain ⟨k, hk, rfl, hR⟩ := hrel
    rename_i wr _
    by_cases hlt : k < n
    · have hkl : k < l.length := by rw [← HX.out.1]; exact hlt
      obtain ⟨g, o, cap', e, hcell⟩ := HX.out.2.1.at (by omega)
      injection e with e1 e2 e3
      subst e1 e3
      have c0 := ((hcell k hkl).keep hR.out.1 (fun h => h)).get 0 _ rfl
      simp only [Nat.mul_one, Nat.add_zero] at c0
      have hstep : num l[k] → ∀ j (h : j < l.length), j < k + 1 → num l[j] := fun h j hj hjk => by
        rcases Nat.lt_or_eq_of_le (show j ≤ k by omega) with e | e
        · exact hR.out.2 j hj e
        · subst e; exact h
      have hno := HX.out.2.2.2 k hkl
      generalize l[k] = x at *
      have q3 : ((k : Int) < (n : Int)) = True := eq_true (by omega)
      have q4 : (k < n) = True := eq_true hlt
      have HL := Lib.hid (And.intro hlt (And.intro hstep hno))
      have hkn := hlt
      clear hcell hkl hlt hstep hno
      by_cases h1 : x < 0
      · have t1 : (x < 0) = True := eq_true h1
        have HN := Lib.hid (HL.out.2.2 (fun h => by have := h.1; omega))
        clear h1
        go_wp2
        go_ret
        exact ⟨by rw [HN.out]; rfl, hR.out.1⟩
      · have t1 : (x < 0) = False := eq_false h1
        by_cases h2 : 281474976710656 < x
        · have t2 : (281474976710656 < x) = True := eq_true h2
          have HN := Lib.hid (HL.out.2.2 (fun h => by have := h.2; omega))
          clear h1 h2
          go_wp2
          go_ret
          exact ⟨by rw [HN.out]; rfl, hR.out.1⟩
        · have t2 : (281474976710656 < x) = False := eq_false h2
          have HN := Lib.hid (HL.out.2.1 ⟨by omega, by omega⟩)
          clear h1 h2
          go_wp2
          go_roundw
          case rel => exact ⟨k + 1, by omega, by go_num, hR.out.1, HN.out⟩
          case measure => simp [RowKit.intOf]; omega
    · have hke : k = n := by omega
      subst hke
      have q3 : ((k : Int) < (k : Int)) = False := eq_false (by omega)
      have HT := Lib.hid (HX.out.2.2.1 (fun j h => hR.out.2 j h (by rw [HX.out.1]; exact h)))
      clear hlt hk
      go_wp2
      go_ret
      exact ⟨by rw [HT.out]; rfl, hR.out.1⟩
end Go.Proofs.Ytlmfinpmlilcgaa

