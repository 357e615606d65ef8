/- What a call may change; slices that read as bytes and bools; append, copy, clear at the operation. -/
import Derived.Test.YtankfmlafmjaeaaGreatProg
import Derived.Test.YtankfmlafmjaeaaGreatKm
import Derived.WalkKit
import Derived.WalkSpells
import Derived.WalkLawsBesides
import Derived.Deep.QuietTactic
import Derived.Deep.RegionWith
import Derived.BigQuiet
import Derived.Lib.Hide
import Derived.Deep.RegionLaw
import Derived.Laws.CopyRow
import Derived.Laws.IdiomCopy
import Derived.Laws.OwnMore
import Derived.Maps.AppendAt
import Derived.Deep.Upon
namespace Go.Proofs.YtankfmlafmjaeaaGreat
set_option maxRecDepth 20000
open Go.RowKit Pm


theorem ret_bool {a b : Bool} (h : a = b) : Ending.returned (.bool a) = .returned (.bool b) := by rw [h]
theorem ret_int {k : IntKind} {a b : Int} (h : a = b) : Ending.returned (.int k a) = .returned (.int k b) := by rw [h]

/-- As it was, but for the blocks of S, and new ones. -/
structure Fp (S : Nat → Prop) (w w' : World) : Prop where
  os : w'.os = w.os
  tape : w'.tape = w.tape
  output : w'.output = w.output
  size : w.heap.size ≤ w'.heap.size
  block : ∀ k, k < w.heap.size → ¬ S k → w'.heap[k]? = w.heap[k]?

def Non : Nat → Prop := fun _ => False

theorem Fp.refl (S : Nat → Prop) (w : World) : Fp S w w := ⟨rfl, rfl, rfl, Nat.le_refl _, fun _ _ _ => rfl⟩
theorem Fp.trans {S T : Nat → Prop} {a b c : World} (h : Fp S a b) (g : Fp T b c) (hT : ∀ k, T k → S k ∨ a.heap.size ≤ k) : Fp S a c :=
  ⟨g.os.trans h.os, g.tape.trans h.tape, g.output.trans h.output, Nat.le_trans h.size g.size,
    fun k hk hS => (g.block k (Nat.lt_of_lt_of_le hk h.size) (fun ht => (hT k ht).elim hS (fun h1 => absurd hk (by omega)))).trans (h.block k hk hS)⟩
theorem Fp.then {S : Nat → Prop} {a b c : World} (h : Fp S a b) (g : Fp Non b c) : Fp S a c := h.trans g (fun _ h => h.elim)
theorem Fp.same {S : Nat → Prop} {a b c : World} (h : Fp S a b) (g : Fp S b c) : Fp S a c := h.trans g (fun _ h => .inl h)
theorem Fp.mono {S T : Nat → Prop} {a b : World} (h : Fp S a b) (hS : ∀ k, S k → T k) : Fp T a b := ⟨h.os, h.tape, h.output, h.size, fun k hk ht => h.block k hk (fun hs => ht (hS k hs))⟩
theorem Fp.any {S : Nat → Prop} {a b : World} (h : Fp Non a b) : Fp S a b := h.mono (fun _ h => h.elim)
theorem Fp.drewN {S : Nat → Prop} {a b : World} (h : Fp S a b) (n : Nat) : Fp S a (b.drewN n) := ⟨h.os, h.tape, h.output, h.size, h.block⟩
theorem Fp.drew {S : Nat → Prop} {a b : World} (h : Fp S a b) : Fp S a b.drew := ⟨h.os, h.tape, h.output, h.size, h.block⟩
theorem Fp.below {S : Nat → Prop} {a b : World} (h : Fp S a b) {lo : Nat} (hS : ∀ k, S k → lo ≤ k) (hl : lo ≤ a.heap.size) : Below lo a b :=
  ⟨h.os, h.tape, h.output, h.size, fun k hk => h.block k (by omega) (fun hs => by have := hS k hs; omega)⟩
theorem Fp.of_below {a b : World} (h : Below a.heap.size a b) : Fp Non a b := ⟨h.os, h.tape, h.output, h.size, fun k hk _ => h.block k hk⟩
theorem Fp.grown {S : Nat → Prop} {a b c : World} {row : Option Nat} (h : Fp S a b) (g : b.grownBy c row) (hr : ∀ k, row = some k → S k ∨ a.heap.size ≤ k) : Fp S a c :=
  ⟨g.os.trans h.os, g.tape.trans h.tape, g.output.trans h.output, Nat.le_trans h.size g.size,
    fun k hk hS => (g.block k (Nat.lt_of_lt_of_le hk h.size) (fun ht => (hr k ht.symm).elim hS (fun h1 => absurd hk (by omega)))).trans (h.block k hk hS)⟩
theorem Fp.alloc {S : Nat → Prop} {a b : World} (h : Fp S a b) (o : Obj) : Fp S a (b.alloc o) := h.grown (World.grownBy_alloc b o none) (fun _ h => by cases h)
theorem Fp.setCell {S : Nat → Prop} {a b : World} (h : Fp S a b) {p : Addr} (hp : S p.block ∨ a.heap.size ≤ p.block) (v : Value) : Fp S a (b.setCell p v) := by
  refine ⟨h.os, h.tape, h.output, by simpa [World.setCell] using h.size, fun k hk hS => ?_⟩
  have hne : k ≠ p.block := by rintro rfl; exact hp.elim hS (fun h1 => absurd hk (by omega))
  have : (b.setCell p v).heap[k]? = b.heap[k]? := by
    unfold World.setCell
    simp [Array.getElem?_modify, Ne.symm hne]
  exact this.trans (h.block k hk hS)
theorem Fp.heap {S : Nat → Prop} {a b : World} (h : Fp S a b) {k : Nat} {o : Obj} (hk : a.heap[k]? = some o) (hS : ¬ S k) : b.heap[k]? = some o := by
  rw [h.block k (Array.getElem?_eq_some_iff.1 hk).1 hS]; exact hk
theorem Fp.cell {S : Nat → Prop} {a b : World} (h : Fp S a b) {p : Addr} {v : Value} (hc : a.cell? p = some v) (hS : ¬ S p.block) : b.cell? p = some v :=
  (World.cell?_of_block (h.block p.block (World.block_lt_of_cell? a p hc) hS)).trans hc
theorem Fp.owns {S : Nat → Prop} {a b : World} (h : Fp S a b) {lo : Nat} {e : TypeId} {size : Nat} {v : Value} {n : Nat} {xs : List Value} (ho : a.ownsRow lo e size v n xs) (hS : ∀ k, v.ownBlock = some k → ¬ S k) : b.ownsRow lo e size v n xs := by
  refine ⟨ho.1, ?_⟩
  rcases ho.2 with hn | ⟨g, cap, cur, rfl, hb, hgg, rest⟩
  · exact .inl hn
  · exact .inr ⟨g, cap, cur, rfl, hb, h.heap hgg (hS g rfl), rest⟩

/-- A slice of bytes that reads as l. -/
structure Sl (w : World) (v : Value) (l : Bs) : Prop where
  ex : ∃ ao cap, v = .slice ao l.length cap ∧ l.length ≤ cap ∧ cap ≤ maxLen ∧
    ((ao = none ∧ cap = 0) ∨ ∃ g o, ao = some ⟨g, o, none⟩ ∧ g < w.heap.size ∧ ∀ j (h : j < l.length), w.cell? ⟨g, o + j, none⟩ = some (.int .u8 (l[j].toNat : Int)))

theorem Sl.keep {S : Nat → Prop} {a b : World} {v : Value} {l : Bs} (h : Sl a v l) (f : Fp S a b) (hS : ∀ k, v.ownBlock = some k → ¬ S k) : Sl b v l := by
  obtain ⟨ao, cap, rfl, h1, h2, h3⟩ := h.ex
  refine ⟨ao, cap, rfl, h1, h2, ?_⟩
  rcases h3 with h3 | ⟨g, o, rfl, hg, hc⟩
  · exact .inl h3
  · exact .inr ⟨g, o, rfl, Nat.lt_of_lt_of_le hg f.size, fun j hj => f.cell (hc j hj) (hS g rfl)⟩

theorem byteCells_get (l : Bs) (j : Nat) (h : j < l.length) : (Lib.byteCells l)[j]? = some (.int .u8 (l[j].toNat : Int)) := by simp [Lib.byteCells, h]
theorem byteCells_one (l : Bs) : ∀ u ∈ Lib.byteCells l, u.oneCell' = true := by
  intro u hu; obtain ⟨_, _, rfl⟩ := List.mem_map.1 hu; rfl

theorem Sl.of_owns {w : World} {lo : Nat} {v : Value} {l : Bs} (h : w.ownsRow lo 5 1 v l.length (Lib.byteCells l)) : Sl w v l := by
  have hc := fun g hg => h.cells (g := g) hg
  rcases h.2 with ⟨rfl, h0⟩ | ⟨g, cap, cur, rfl, hb, hgg, r1, r2, r3⟩
  · exact ⟨none, 0, by rw [h0], by omega, by unfold maxLen; omega, .inl ⟨rfl, rfl⟩⟩
  · refine ⟨_, cap, rfl, r1, r2, .inr ⟨g, 0, rfl, (Array.getElem?_eq_some_iff.1 hgg).1, fun j hj => ?_⟩⟩
    have := hc g rfl j _ (byteCells_get l j hj)
    simpa [Addr.add_lit] using this

theorem Sl.nil (w : World) : Sl w (.slice none 0 0) [] := ⟨none, 0, rfl, Nat.le_refl _, Nat.zero_le _, .inl ⟨rfl, rfl⟩⟩

/-- A slice of bytes that reads as l; of an empty one nothing is known. -/
structure Sl0 (w : World) (v : Value) (l : Bs) : Prop where
  ex : ∃ ao cap, v = .slice ao l.length cap ∧ l.length ≤ cap ∧ cap ≤ maxLen ∧
    (cap = 0 ∨ ∃ g o, ao = some ⟨g, o, none⟩ ∧ g < w.heap.size ∧ ∀ j (h : j < l.length), w.cell? ⟨g, o + j, none⟩ = some (.int .u8 (l[j].toNat : Int)))
theorem Sl.zero {w : World} {v : Value} {l : Bs} (h : Sl w v l) : Sl0 w v l := by
  obtain ⟨ao, cap, rfl, h1, h2, h3⟩ := h.ex
  refine ⟨ao, cap, rfl, h1, h2, ?_⟩
  rcases h3 with ⟨_, h0⟩ | h3
  · exact .inl h0
  · exact .inr h3
theorem Sl0.pos {w : World} {v : Value} {l : Bs} (h : Sl0 w v l) (h0 : 0 < l.length) : Sl w v l := by
  obtain ⟨ao, cap, rfl, h1, h2, h3⟩ := h.ex
  refine ⟨ao, cap, rfl, h1, h2, ?_⟩
  rcases h3 with h3 | h3
  · omega
  · exact .inr h3
theorem Sl0.keep {S : Nat → Prop} {a b : World} {v : Value} {l : Bs} (h : Sl0 a v l) (f : Fp S a b) (hS : 0 < l.length → ∀ k, v.ownBlock = some k → ¬ S k) : Sl0 b v l := by
  obtain ⟨ao, cap, rfl, h1, h2, h3⟩ := h.ex
  refine ⟨ao, cap, rfl, h1, h2, ?_⟩
  rcases h3 with h3 | ⟨g, o, rfl, hg, hc⟩
  · exact .inl h3
  · exact .inr ⟨g, o, rfl, Nat.lt_of_lt_of_le hg f.size, fun j hj => f.cell (hc j hj) (hS (by omega) g rfl)⟩

/-- Behind an append. -/
structure AppR (lo : Nat) (v : Value) (l : Bs) (w : World) (v' : Value) (w' : World) : Prop where
  own : w'.ownsRow lo 5 1 v' l.length (Lib.byteCells l)
  grown : w.grownBy w' v.ownBlock
  at' : v'.ownBlock = v.ownBlock ∨ v'.ownBlock = some w.heap.size

theorem Tryz.infoBy : (Tryz.prog.info? 5).map (fun i => (i.zero, i.size, i.bytes)) = some (some (.int .u8 0), 1, 1) := by kernel_rfl

theorem AppR.shape {lo : Nat} {v : Value} {l : Bs} {w : World} {v' : Value} {w' : World} (h : AppR lo v l w v' w') : ∃ ao n cap, v' = .slice ao n cap := by
  rcases h.own.2 with ⟨hv, _⟩ | ⟨g, cap, cur, hv, _⟩
  · exact ⟨_, _, _, hv⟩
  · exact ⟨_, _, _, hv⟩

theorem app_nothing (w : World) (lo : Nat) (v : Value) (l : Bs) (ho : w.ownsRow lo 5 1 v l.length (Lib.byteCells l)) (tx ty : TypeId) (x : Value) (hs : Src Tryz.prog 1 tx x 0 [] w) :
    (Builtin.append_ #[22, tx] ty #[v, x]).run Tryz.prog w = .ok v w := by
  obtain ⟨i, hi, hz, hsz, hby⟩ := info_parts Tryz.infoBy
  have hs' : Src Tryz.prog i.size tx x 0 [] w := by rw [hsz]; exact hs
  rcases ho.2 with ⟨rfl, _⟩ | ⟨g, cap, cur, rfl, hb, hgg, r1, r2, r3⟩
  · exact run_append_nothing w _ _ _ _ i Tryz.underlying22 hi none 0 0 (Nat.le_refl _) x hs'
  · exact run_append_nothing w _ _ _ _ i Tryz.underlying22 hi _ _ _ r1 x hs'

/-- append(v, x...) of a slice of the call's own, x a slice of bytes. -/
theorem app_sl (w : World) (lo : Nat) (v : Value) (l s : Bs) (ty : TypeId) (x : Value) (ho : w.ownsRow lo 5 1 v l.length (Lib.byteCells l)) (hx : Sl w x s) (hn : l.length + s.length ≤ 100000000) (hlo : lo ≤ w.heap.size) :
    ∃ v' w', (Builtin.append_ #[22, 22] ty #[v, x]).run Tryz.prog w = .ok v' w' ∧ AppR lo v (l ++ s) w v' w' := by
  obtain ⟨i, hi, hz, hsz, hby⟩ := info_parts Tryz.infoBy
  obtain ⟨ao, cap, rfl, h1, h2, h3⟩ := hx.ex
  rcases h3 with ⟨rfl, rfl⟩ | ⟨g, o, rfl, hg, hc⟩
  · have h0 : s = [] := List.eq_nil_of_length_eq_zero (by omega)
    subst h0
    refine ⟨v, w, app_nothing w lo v l ho _ _ _ (Src.ofNil w Tryz.underlying22 0), by rw [List.append_nil]; exact ho, ⟨rfl, rfl, rfl, Nat.le_refl _, fun _ _ _ => rfl⟩, .inl rfl⟩
  · obtain ⟨v', w', hr, h4, h5, _, h6⟩ := run_append_own_at (P := Tryz.prog) w lo 22 ty 5 i (.int .u8 0) 1 1 Tryz.underlying22 hi hz hsz hby rfl (by decide) v l.length (Lib.byteCells l) ho
      ⟨g, o, none⟩ s.length cap (Lib.byteCells s) (by rw [Lib.byteCells_length]; omega)
      (fun j u hu => by
        have hj : j < s.length := by have := (List.getElem?_eq_some_iff.1 hu).1; rwa [Lib.byteCells_length] at this
        rw [byteCells_get s j hj] at hu
        rw [Addr.add_lit, hc j hj]; exact hu)
      (byteCells_one s) (by unfold maxLen; omega) (by omega) hlo
    exact ⟨v', w', hr, by rw [List.length_append, Lib.byteCells_append]; exact h4, h5, h6⟩

/-- At the operation. -/
theorem wpList_app {P : Program} {w : World} {ops : Array Oper} {rest : List Oper} {o : Oper} {a : Act} {Q : Exit → Act → World → Prop} (hgd : o.guard = none) (s x : Operand) (t u : TypeId)
    (ho : o.op = .call { callee := .builtin .append, args := #[s, x], argTypes := #[t, u] }) (v xv : Value) (hs : a.eval s = v) (hx : a.eval x = xv) (R : Value → World → Prop)
    (hr : ∃ v' w', (Builtin.append_ #[t, u] o.type #[v, xv]).run P w = .ok v' w' ∧ R v' w') (h : ∀ v' w', R v' w' → wpList P ops Q rest (a.put o.dst v') w') : wpList P ops Q (o :: rest) a w := by
  refine wpList_plain hgd fun K hK => ?_
  obtain ⟨v', w', hr, h2⟩ := hr
  unfold Oper.wp execOp
  simp only [ho, resolve, invoke, builtin, Sem.run_bind, Sem.run_pure, Result.andThen_ok, List.map_toArray, List.map_cons, List.map_nil, hs, hx, hr]
  exact hK _ _ (h v' w' h2)

/-- Bytes in memory of the call's own, new since w. -/
structure Nw (w w' : World) (v : Value) (l : Bs) : Prop where
  own : w'.ownsRow w.heap.size 5 1 v l.length (Lib.byteCells l)
  fp : Fp Non w w'

theorem Nw.sl {w w' : World} {v : Value} {l : Bs} (h : Nw w w' v l) : Sl w' v l := Sl.of_owns h.own
theorem Nw.nil (w : World) : Nw w w (.slice none 0 0) [] := ⟨World.ownsRow_nil _ _ _ _, Fp.refl _ _⟩
theorem Nw.shape {w w' : World} {v : Value} {l : Bs} (h : Nw w w' v l) : ∃ ao cap, v = .slice ao l.length cap := by
  rcases h.own.2 with ⟨hv, h0⟩ | ⟨g, cap, cur, hv, _⟩
  · exact ⟨none, 0, by rw [hv, h0]⟩
  · exact ⟨_, _, hv⟩

