/- What a call may change, and what a writer and a reader hold: for the walks. -/
import Derived.Test.YtidkihadlhkbkaaProg
import Derived.Test.YtidkihadlhkbkaaKm
import Derived.WalkKit
import Derived.WalkSpells
import Derived.WalkLawsBesides
import Derived.Deep.QuietTactic
import Derived.Deep.RegionWith
import Derived.BigQuiet
import Derived.Lib.Hide
import Derived.Lib.AppendStr
import Derived.Lib.UnsafeStr
import Derived.Maps.AppendAt
import Derived.Deep.Upon
namespace Go.Proofs.Ytidkihadlhkbkaa
open Go.RowKit Pm

attribute [go_sem] B_size B_toList B_get B_extract B_app lit_app app_lit lit_extract

theorem ret_bool {a b : Bool} (h : a = b) : Ending.returned (.bool a) = .returned (.bool b) := by rw [h]
theorem ret_int {k : IntKind} {a b : Int} (h : a = b) : Ending.returned (.int k a) = .returned (.int k b) := by rw [h]

/-- As it was, but for the blocks of S, and new ones. -/
structure Fp (S : Nat → Prop) (w w' : World) : Prop where
  os : w'.os = w.os
  tape : w'.tape = w.tape
  output : w'.output = w.output
  size : w.heap.size ≤ w'.heap.size
  block : ∀ k, k < w.heap.size → ¬ S k → w'.heap[k]? = w.heap[k]?

def Non : Nat → Prop := fun _ => False

theorem Fp.refl (S : Nat → Prop) (w : World) : Fp S w w := ⟨rfl, rfl, rfl, Nat.le_refl _, fun _ _ _ => rfl⟩
theorem Fp.trans {S T : Nat → Prop} {a b c : World} (h : Fp S a b) (g : Fp T b c) (hT : ∀ k, T k → S k ∨ a.heap.size ≤ k) : Fp S a c :=
  ⟨g.os.trans h.os, g.tape.trans h.tape, g.output.trans h.output, Nat.le_trans h.size g.size,
    fun k hk hS => (g.block k (Nat.lt_of_lt_of_le hk h.size) (fun ht => (hT k ht).elim hS (fun h1 => absurd hk (by omega)))).trans (h.block k hk hS)⟩
theorem Fp.then {S : Nat → Prop} {a b c : World} (h : Fp S a b) (g : Fp Non b c) : Fp S a c := h.trans g (fun _ h => h.elim)
theorem Fp.same {S : Nat → Prop} {a b c : World} (h : Fp S a b) (g : Fp S b c) : Fp S a c := h.trans g (fun _ h => .inl h)
theorem Fp.mono {S T : Nat → Prop} {a b : World} (h : Fp S a b) (hS : ∀ k, S k → T k) : Fp T a b := ⟨h.os, h.tape, h.output, h.size, fun k hk ht => h.block k hk (fun hs => ht (hS k hs))⟩
theorem Fp.any {S : Nat → Prop} {a b : World} (h : Fp Non a b) : Fp S a b := h.mono (fun _ h => h.elim)
theorem Fp.drewN {S : Nat → Prop} {a b : World} (h : Fp S a b) (n : Nat) : Fp S a (b.drewN n) := ⟨h.os, h.tape, h.output, h.size, h.block⟩
theorem Fp.drew {S : Nat → Prop} {a b : World} (h : Fp S a b) : Fp S a b.drew := ⟨h.os, h.tape, h.output, h.size, h.block⟩
theorem Fp.below {S : Nat → Prop} {a b : World} (h : Fp S a b) {lo : Nat} (hS : ∀ k, S k → lo ≤ k) (hl : lo ≤ a.heap.size) : Below lo a b :=
  ⟨h.os, h.tape, h.output, h.size, fun k hk => h.block k (by omega) (fun hs => by have := hS k hs; omega)⟩
theorem Fp.of_below {a b : World} (h : Below a.heap.size a b) : Fp Non a b := ⟨h.os, h.tape, h.output, h.size, fun k hk _ => h.block k hk⟩
theorem Fp.grown {S : Nat → Prop} {a b c : World} {row : Option Nat} (h : Fp S a b) (g : b.grownBy c row) (hr : ∀ k, row = some k → S k ∨ a.heap.size ≤ k) : Fp S a c :=
  ⟨g.os.trans h.os, g.tape.trans h.tape, g.output.trans h.output, Nat.le_trans h.size g.size,
    fun k hk hS => (g.block k (Nat.lt_of_lt_of_le hk h.size) (fun ht => (hr k ht.symm).elim hS (fun h1 => absurd hk (by omega)))).trans (h.block k hk hS)⟩
theorem Fp.alloc {S : Nat → Prop} {a b : World} (h : Fp S a b) (o : Obj) : Fp S a (b.alloc o) := h.grown (World.grownBy_alloc b o none) (fun _ h => by cases h)
theorem Fp.setCell {S : Nat → Prop} {a b : World} (h : Fp S a b) {p : Addr} (hp : S p.block ∨ a.heap.size ≤ p.block) (v : Value) : Fp S a (b.setCell p v) := by
  refine ⟨h.os, h.tape, h.output, by simpa [World.setCell] using h.size, fun k hk hS => ?_⟩
  have hne : k ≠ p.block := by rintro rfl; exact hp.elim hS (fun h1 => absurd hk (by omega))
  have : (b.setCell p v).heap[k]? = b.heap[k]? := by
    unfold World.setCell
    simp [Array.getElem?_modify, Ne.symm hne]
  exact this.trans (h.block k hk hS)
theorem Fp.heap {S : Nat → Prop} {a b : World} (h : Fp S a b) {k : Nat} {o : Obj} (hk : a.heap[k]? = some o) (hS : ¬ S k) : b.heap[k]? = some o := by
  rw [h.block k (Array.getElem?_eq_some_iff.1 hk).1 hS]; exact hk
theorem Fp.cell {S : Nat → Prop} {a b : World} (h : Fp S a b) {p : Addr} {v : Value} (hc : a.cell? p = some v) (hS : ¬ S p.block) : b.cell? p = some v :=
  (World.cell?_of_block (h.block p.block (World.block_lt_of_cell? a p hc) hS)).trans hc
theorem Fp.owns {S : Nat → Prop} {a b : World} (h : Fp S a b) {lo : Nat} {e : TypeId} {size : Nat} {v : Value} {n : Nat} {xs : List Value} (ho : a.ownsRow lo e size v n xs) (hS : ∀ k, v.ownBlock = some k → ¬ S k) : b.ownsRow lo e size v n xs := by
  refine ⟨ho.1, ?_⟩
  rcases ho.2 with hn | ⟨g, cap, cur, rfl, hb, hgg, rest⟩
  · exact .inl hn
  · exact .inr ⟨g, cap, cur, rfl, hb, h.heap hgg (hS g rfl), rest⟩

/-- A slice of bytes that reads as l. -/
structure Sl (w : World) (v : Value) (l : Bs) : Prop where
  ex : ∃ ao cap, v = .slice ao l.length cap ∧ l.length ≤ cap ∧ cap ≤ maxLen ∧
    ((ao = none ∧ cap = 0) ∨ ∃ g o, ao = some ⟨g, o, none⟩ ∧ g < w.heap.size ∧ ∀ j (h : j < l.length), w.cell? ⟨g, o + j, none⟩ = some (.int .u8 (l[j].toNat : Int)))

theorem Sl.keep {S : Nat → Prop} {a b : World} {v : Value} {l : Bs} (h : Sl a v l) (f : Fp S a b) (hS : ∀ k, v.ownBlock = some k → ¬ S k) : Sl b v l := by
  obtain ⟨ao, cap, rfl, h1, h2, h3⟩ := h.ex
  refine ⟨ao, cap, rfl, h1, h2, ?_⟩
  rcases h3 with h3 | ⟨g, o, rfl, hg, hc⟩
  · exact .inl h3
  · exact .inr ⟨g, o, rfl, Nat.lt_of_lt_of_le hg f.size, fun j hj => f.cell (hc j hj) (hS g rfl)⟩

theorem byteCells_get (l : Bs) (j : Nat) (h : j < l.length) : (Lib.byteCells l)[j]? = some (.int .u8 (l[j].toNat : Int)) := by simp [Lib.byteCells, h]
theorem byteCells_one (l : Bs) : ∀ u ∈ Lib.byteCells l, u.oneCell' = true := by
  intro u hu; obtain ⟨_, _, rfl⟩ := List.mem_map.1 hu; rfl

theorem Sl.of_owns {w : World} {lo : Nat} {v : Value} {l : Bs} (h : w.ownsRow lo 5 1 v l.length (Lib.byteCells l)) : Sl w v l := by
  have hc := fun g hg => h.cells (g := g) hg
  rcases h.2 with ⟨rfl, h0⟩ | ⟨g, cap, cur, rfl, hb, hgg, r1, r2, r3⟩
  · exact ⟨none, 0, by rw [h0], by omega, by unfold maxLen; omega, .inl ⟨rfl, rfl⟩⟩
  · refine ⟨_, cap, rfl, r1, r2, .inr ⟨g, 0, rfl, (Array.getElem?_eq_some_iff.1 hgg).1, fun j hj => ?_⟩⟩
    have := hc g rfl j _ (byteCells_get l j hj)
    simpa [Addr.add_lit] using this

theorem Sl.nil (w : World) : Sl w (.slice none 0 0) [] := ⟨none, 0, rfl, Nat.le_refl _, Nat.zero_le _, .inl ⟨rfl, rfl⟩⟩

/-- Behind an append. -/
structure AppR (lo : Nat) (v : Value) (l : Bs) (w : World) (v' : Value) (w' : World) : Prop where
  own : w'.ownsRow lo 5 1 v' l.length (Lib.byteCells l)
  grown : w.grownBy w' v.ownBlock
  at' : v'.ownBlock = v.ownBlock ∨ v'.ownBlock = some w.heap.size

theorem Try.infoBy : (Try.prog.info? 5).map (fun i => (i.zero, i.size, i.bytes)) = some (some (.int .u8 0), 1, 1) := by kernel_rfl

theorem AppR.shape {lo : Nat} {v : Value} {l : Bs} {w : World} {v' : Value} {w' : World} (h : AppR lo v l w v' w') : ∃ ao n cap, v' = .slice ao n cap := by
  rcases h.own.2 with ⟨hv, _⟩ | ⟨g, cap, cur, hv, _⟩
  · exact ⟨_, _, _, hv⟩
  · exact ⟨_, _, _, hv⟩

theorem app_nothing (w : World) (lo : Nat) (v : Value) (l : Bs) (ho : w.ownsRow lo 5 1 v l.length (Lib.byteCells l)) (tx ty : TypeId) (x : Value) (hs : Src Try.prog 1 tx x 0 [] w) :
    (Builtin.append_ #[26, tx] ty #[v, x]).run Try.prog w = .ok v w := by
  obtain ⟨i, hi, hz, hsz, hby⟩ := info_parts Try.infoBy
  have hs' : Src Try.prog i.size tx x 0 [] w := by rw [hsz]; exact hs
  rcases ho.2 with ⟨rfl, _⟩ | ⟨g, cap, cur, rfl, hb, hgg, r1, r2, r3⟩
  · exact run_append_nothing w _ _ _ _ i Try.underlying26 hi none 0 0 (Nat.le_refl _) x hs'
  · exact run_append_nothing w _ _ _ _ i Try.underlying26 hi _ _ _ r1 x hs'

/-- append(v, x...) of a slice of the call's own, x a slice of bytes. -/
theorem app_sl (w : World) (lo : Nat) (v : Value) (l s : Bs) (ty : TypeId) (x : Value) (ho : w.ownsRow lo 5 1 v l.length (Lib.byteCells l)) (hx : Sl w x s) (hn : l.length + s.length ≤ 100000000) (hlo : lo ≤ w.heap.size) :
    ∃ v' w', (Builtin.append_ #[26, 26] ty #[v, x]).run Try.prog w = .ok v' w' ∧ AppR lo v (l ++ s) w v' w' := by
  obtain ⟨i, hi, hz, hsz, hby⟩ := info_parts Try.infoBy
  obtain ⟨ao, cap, rfl, h1, h2, h3⟩ := hx.ex
  rcases h3 with ⟨rfl, rfl⟩ | ⟨g, o, rfl, hg, hc⟩
  · have h0 : s = [] := List.eq_nil_of_length_eq_zero (by omega)
    subst h0
    refine ⟨v, w, app_nothing w lo v l ho _ _ _ (Src.ofNil w Try.underlying26 0), by rw [List.append_nil]; exact ho, ⟨rfl, rfl, rfl, Nat.le_refl _, fun _ _ _ => rfl⟩, .inl rfl⟩
  · obtain ⟨v', w', hr, h4, h5, _, h6⟩ := run_append_own_at (P := Try.prog) w lo 26 ty 5 i (.int .u8 0) 1 1 Try.underlying26 hi hz hsz hby rfl (by decide) v l.length (Lib.byteCells l) ho
      ⟨g, o, none⟩ s.length cap (Lib.byteCells s) (by rw [Lib.byteCells_length]; omega)
      (fun j u hu => by
        have hj : j < s.length := by have := (List.getElem?_eq_some_iff.1 hu).1; rwa [Lib.byteCells_length] at this
        rw [byteCells_get s j hj] at hu
        rw [Addr.add_lit, hc j hj]; exact hu)
      (byteCells_one s) (by unfold maxLen; omega) (by omega) hlo
    exact ⟨v', w', hr, by rw [List.length_append, Lib.byteCells_append]; exact h4, h5, h6⟩

theorem Sl.byte (w : World) (c : UInt8) : Sl (w.alloc (.cells #[.int .u8 (c.toNat : Int)] 5)) (.slice (some ⟨w.heap.size, 0, none⟩) 1 1) [c] := by
  refine ⟨_, 1, rfl, Nat.le_refl _, by unfold maxLen; omega, .inr ⟨w.heap.size, 0, rfl, by simp, fun j hj => ?_⟩⟩
  obtain rfl : j = 0 := by simpa using hj
  simp

/-- append(v, c): the byte lies in the block that was laid for it. -/
theorem app_byte (w : World) (lo : Nat) (v : Value) (l : Bs) (c : Nat) (ty : TypeId) (hc : c < 256) (ho : w.ownsRow lo 5 1 v l.length (Lib.byteCells l)) (hn : l.length ≤ 90000000) (hlo : lo ≤ w.heap.size) :
    ∃ v' w', (Builtin.append_ #[26, 26] ty #[v, .slice (some ⟨w.heap.size, 0, none⟩) 1 1]).run Try.prog (w.alloc (.cells #[.int .u8 (c : Int)] 5)) = .ok v' w' ∧ AppR lo v (l ++ [dg c]) (w.alloc (.cells #[.int .u8 (c : Int)] 5)) v' w' := by
  have hx := Sl.byte w (dg c)
  rw [dg_toNat c hc] at hx
  exact app_sl _ lo v l [dg c] ty _ (ho.alloc _) hx (by simp; omega) (by simp; omega)

/-- append(v, s...) of a string. -/
theorem app_text (w : World) (lo : Nat) (v : Value) (l s : Bs) (ty : TypeId) (ho : w.ownsRow lo 5 1 v l.length (Lib.byteCells l)) (hn : l.length + s.length ≤ 100000000) (hlo : lo ≤ w.heap.size) :
    ∃ v' w', (Builtin.append_ #[26, 9] ty #[v, .string (B s)]).run Try.prog w = .ok v' w' ∧ AppR lo v (l ++ s) w v' w' := by
  obtain ⟨i, hi, hz, hsz, hby⟩ := info_parts Try.infoBy
  have hBs : (B s).size = s.length := B_size s
  have hcs : Lib.strCells (B s) = Lib.byteCells s := by rw [Lib.strCells_eq]; rfl
  obtain ⟨v', w', hr, h4, h5, _⟩ := Lib.run_append_own_string (P := Try.prog) w lo 26 9 ty 5 i Try.underlying26 Try.underlying9 hi hz hsz hby v l.length (Lib.byteCells l) ho (B s) (by rw [hBs]; unfold maxLen; omega) (by rw [hBs]; omega) hlo
  refine ⟨v', w', hr, ⟨by rw [List.length_append, Lib.byteCells_append, ← hcs, ← hBs]; exact h4, h5, ?_⟩⟩
  by_cases h0 : s = []
  · subst h0
    have := app_nothing w lo v l ho 9 ty (.string (B [])) (by have := Src.ofString (P := Try.prog) w Try.underlying9 (B []); exact this)
    rw [this] at hr
    injection hr with hr _
    exact .inl (by rw [hr])
  · have hpos : 0 < s.length := List.length_pos_iff.2 h0
    rcases ho.2 with ⟨rfl, hz0⟩ | ⟨g, cap, cur, rfl, hb, hgg, r1, r2, r3, r4⟩
    · have := run_append_nil_string (P := Try.prog) w 26 9 ty 5 i (.int .u8 0) Try.underlying26 Try.underlying9 hi hz (B s) (by omega) (by omega) (by rw [hby]; omega)
      rw [this] at hr
      injection hr with hr _
      exact .inr (by rw [← hr]; rfl)
    · by_cases hroom : l.length + (B s).size ≤ cap
      · have := Lib.run_append_room_string (P := Try.prog) w 26 9 ty 5 i Try.underlying26 Try.underlying9 hi hsz g l.length cap cur hgg (B s) hroom (by rw [r3]; omega)
        rw [this] at hr
        injection hr with hr _
        exact .inl (by rw [← hr]; rfl)
      · have := Lib.run_append_grow_string (P := Try.prog) w 26 9 ty 5 i (.int .u8 0) Try.underlying26 Try.underlying9 hi hz ⟨g, 0, none⟩ l.length cap (Lib.byteCells l) (by rw [hsz, Lib.byteCells_length]; omega) (ho.cells rfl) (B s) (by omega) (by omega)
          (growslice_fits (by omega) (by rw [hby]; omega))
        rw [this] at hr
        injection hr with hr _
        exact .inr (by rw [← hr]; rfl)

/-- At the operation. -/
theorem wpList_app {P : Program} {w : World} {ops : Array Oper} {rest : List Oper} {o : Oper} {a : Act} {Q : Exit → Act → World → Prop} (hgd : o.guard = none) (s x : Operand) (t u : TypeId)
    (ho : o.op = .call { callee := .builtin .append, args := #[s, x], argTypes := #[t, u] }) (v xv : Value) (hs : a.eval s = v) (hx : a.eval x = xv) (R : Value → World → Prop)
    (hr : ∃ v' w', (Builtin.append_ #[t, u] o.type #[v, xv]).run P w = .ok v' w' ∧ R v' w') (h : ∀ v' w', R v' w' → wpList P ops Q rest (a.put o.dst v') w') : wpList P ops Q (o :: rest) a w := by
  refine wpList_plain hgd fun K hK => ?_
  obtain ⟨v', w', hr, h2⟩ := hr
  unfold Oper.wp execOp
  simp only [ho, resolve, invoke, builtin, Sem.run_bind, Sem.run_pure, Result.andThen_ok, List.map_toArray, List.map_cons, List.map_nil, hs, hx, hr]
  exact hK _ _ (h v' w' h2)

/-- A slice of strings that reads as ps. -/
structure Ss (w : World) (v : Value) (ps : List Bs) : Prop where
  ex : ∃ ao cap, v = .slice ao ps.length cap ∧ ps.length ≤ cap ∧ cap ≤ maxLen ∧
    (cap = 0 ∨ ∃ g o, ao = some ⟨g, o, none⟩ ∧ g < w.heap.size ∧ ∀ j (h : j < ps.length), w.cell? ⟨g, o + j, none⟩ = some (.string (B ps[j])))

theorem Ss.keep {S : Nat → Prop} {a b : World} {v : Value} {ps : List Bs} (h : Ss a v ps) (f : Fp S a b) (hS : 0 < ps.length → ∀ k, v.ownBlock = some k → ¬ S k) : Ss b v ps := by
  obtain ⟨ao, cap, rfl, h1, h2, h3⟩ := h.ex
  refine ⟨ao, cap, rfl, h1, h2, ?_⟩
  rcases h3 with h3 | ⟨g, o, rfl, hg, hc⟩
  · exact .inl h3
  · exact .inr ⟨g, o, rfl, Nat.lt_of_lt_of_le hg f.size, fun j hj => f.cell (hc j hj) (hS (by omega) g rfl)⟩
theorem Ss.nil (w : World) : Ss w (.slice none 0 0) [] := ⟨none, 0, rfl, Nat.le_refl _, Nat.zero_le _, .inl rfl⟩

/-- Bytes in memory of the call's own, new since w. -/
structure Nw (w w' : World) (v : Value) (l : Bs) : Prop where
  own : w'.ownsRow w.heap.size 5 1 v l.length (Lib.byteCells l)
  fp : Fp Non w w'

theorem Nw.sl {w w' : World} {v : Value} {l : Bs} (h : Nw w w' v l) : Sl w' v l := Sl.of_owns h.own
theorem Nw.nil (w : World) : Nw w w (.slice none 0 0) [] := ⟨World.ownsRow_nil _ _ _ _, Fp.refl _ _⟩
theorem Nw.shape {w w' : World} {v : Value} {l : Bs} (h : Nw w w' v l) : ∃ ao cap, v = .slice ao l.length cap := by
  rcases h.own.2 with ⟨hv, h0⟩ | ⟨g, cap, cur, hv, _⟩
  · exact ⟨none, 0, by rw [hv, h0]⟩
  · exact ⟨_, _, hv⟩

/-! A writer: its bytes, and whether a number was wrong. -/
def own2 (b : Nat) (v : Value) : Nat → Prop := fun k => k = b ∨ v.ownBlock = some k

structure Wr (T : TypeId) (lo b : Nat) (v : Value) (l : Bs) (bad : Bool) (w : World) : Prop where
  low : lo ≤ b
  blk : w.heap[b]? = some (.cells #[v, .bool bad] T (0, 0))
  own : w.ownsRow lo 5 1 v l.length (Lib.byteCells l)
  apart : v.ownBlock ≠ some b

theorem Wr.lt {T : TypeId} {lo b : Nat} {v : Value} {l : Bs} {bad : Bool} {w : World} (h : Wr T lo b v l bad w) : b < w.heap.size := (Array.getElem?_eq_some_iff.1 h.blk).1
theorem Wr.all {T : TypeId} {lo b : Nat} {v : Value} {l : Bs} {bad : Bool} {w : World} (h : Wr T lo b v l bad w) : ∀ k, own2 b v k → lo ≤ k ∧ k < w.heap.size := by
  intro k hk
  rcases hk with rfl | hk
  · exact ⟨h.low, h.lt⟩
  · exact h.own.lt k hk
theorem Wr.cell0 {T : TypeId} {lo b : Nat} {v : Value} {l : Bs} {bad : Bool} {w : World} (h : Wr T lo b v l bad w) : w.cell? ⟨b, 0, none⟩ = some v := by simp [World.cell?, h.blk]
theorem Wr.cell1 {T : TypeId} {lo b : Nat} {v : Value} {l : Bs} {bad : Bool} {w : World} (h : Wr T lo b v l bad w) : w.cell? ⟨b, 1, none⟩ = some (.bool bad) := by simp [World.cell?, h.blk]
theorem Wr.keep {T : TypeId} {lo b : Nat} {v : Value} {l : Bs} {bad : Bool} {w w' : World} (h : Wr T lo b v l bad w) {S : Nat → Prop} (f : Fp S w w') (hS : ∀ k, own2 b v k → ¬ S k) : Wr T lo b v l bad w' :=
  ⟨h.low, f.heap h.blk (hS b (.inl rfl)), f.owns h.own (fun k hk => hS k (.inr hk)), h.apart⟩
theorem Wr.ofheap {T : TypeId} {lo b : Nat} {v : Value} {l : Bs} {bad : Bool} {w : World} (h : Wr T lo b v l bad w) : w.frozen? ⟨b, 0, none⟩ = false ∧ w.frozen? ⟨b, 1, none⟩ = false := by
  have := h.blk; constructor <;> simp [World.frozen?, this]

theorem Wr.shape {T : TypeId} {lo b : Nat} {v : Value} {l : Bs} {bad : Bool} {w : World} (h : Wr T lo b v l bad w) : ∃ ao n cap, v = .slice ao n cap := by
  rcases h.own.2 with ⟨hv, _⟩ | ⟨g, cap, cur, hv, _⟩
  · exact ⟨_, _, _, hv⟩
  · exact ⟨_, _, _, hv⟩

/-- A step of a writer: what it holds then; what else was changed: nothing. -/
def WrStep (T : TypeId) (lo b : Nat) (v : Value) (l : Bs) (bad : Bool) (w w' : World) : Prop :=
  ∃ v', Wr T lo b v' l bad w' ∧ Fp (own2 b v) w w' ∧ ∀ k, v'.ownBlock = some k → v.ownBlock = some k ∨ w.heap.size ≤ k

theorem WrStep.refl {T : TypeId} {lo b : Nat} {v : Value} {l : Bs} {bad : Bool} {w : World} (h : Wr T lo b v l bad w) : WrStep T lo b v l bad w w := ⟨v, h, Fp.refl _ _, fun _ h => .inl h⟩

theorem own2_next {b : Nat} {v v' : Value} {n : Nat} (h : ∀ k, v'.ownBlock = some k → v.ownBlock = some k ∨ n ≤ k) : ∀ k, own2 b v' k → own2 b v k ∨ n ≤ k := by
  intro k hk
  rcases hk with rfl | hk
  · exact .inl (.inl rfl)
  · exact (h k hk).elim (fun h => .inl (.inr h)) .inr

/-- Store into the first field what an append made. -/
theorem Wr.put {T : TypeId} {lo b : Nat} {v : Value} {l x : Bs} {bad : Bool} {w w1 w2 : World} (h : Wr T lo b v l bad w) (f : Fp Non w w1) {v' : Value} (r : AppR lo v (l ++ x) w1 v' w2) :
    w2.heap[b]? = some (.cells #[v, .bool bad] T (0, 0)) ∧ WrStep T lo b v (l ++ x) bad w (w2.setCell ⟨b, 0, none⟩ v') := by
  have h1 := h.keep f (fun _ _ h => h)
  have hb2 : w2.heap[b]? = some (.cells #[v, .bool bad] T (0, 0)) := by rw [r.grown.block b h1.lt (fun e => h.apart e.symm)]; exact h1.blk
  have hne : v'.ownBlock ≠ some b := by
    rcases r.at' with e | e
    · rw [e]; exact h.apart
    · rw [e]; intro he; have := h1.lt; simp at he; omega
  have hf : Fp (own2 b v) w w2 := (f.any).grown r.grown (fun k hk => .inl (.inr hk))
  refine ⟨hb2, v', ⟨h.low, ?_, ?_, hne⟩, hf.setCell (p := ⟨b, 0, none⟩) (.inl (.inl rfl)) _, ?_⟩
  · simp [World.setCell, Array.getElem?_modify, hb2]
  · refine (Fp.refl (fun k => k = b) w2).setCell (p := ⟨b, 0, none⟩) (.inl rfl) v' |>.owns r.own (fun k hk e => hne (by rw [← e]; exact hk))
  · intro k hk
    rcases r.at' with e | e
    · exact .inl (by rw [← e]; exact hk)
    · right; rw [e] at hk; simp at hk; have := f.size; omega

theorem WrStep.trans {T : TypeId} {lo b : Nat} {v : Value} {l l' : Bs} {bad bad' : Bool} {a c d : World} (h : WrStep T lo b v l bad a c) (g : ∀ v', Wr T lo b v' l bad c → WrStep T lo b v' l' bad' c d) : WrStep T lo b v l' bad' a d := by
  obtain ⟨v1, h1, h2, h3⟩ := h
  obtain ⟨v2, g1, g2, g3⟩ := g v1 h1
  refine ⟨v2, g1, h2.trans g2 (own2_next h3), ?_⟩
  intro k hk
  rcases g3 k hk with e | e
  · exact h3 k e
  · right; have := h2.size; omega

theorem WrStep.then {T : TypeId} {lo b : Nat} {v : Value} {l : Bs} {bad : Bool} {a c d : World} (h : WrStep T lo b v l bad a c) (g : Fp Non c d) : WrStep T lo b v l bad a d := by
  obtain ⟨v1, h1, h2, h3⟩ := h
  exact ⟨v1, h1.keep g (fun _ _ h => h), h2.then g, h3⟩
theorem WrStep.first {T : TypeId} {lo b : Nat} {v : Value} {l : Bs} {bad : Bool} {a c d : World} (g : Fp Non a c) (h : WrStep T lo b v l bad c d) : WrStep T lo b v l bad a d := by
  obtain ⟨v1, h1, h2, h3⟩ := h
  refine ⟨v1, h1, (g.any (S := own2 b v)).same h2, fun k hk => (h3 k hk).imp id (fun h => Nat.le_trans g.size h)⟩

end Go.Proofs.Ytidkihadlhkbkaa
