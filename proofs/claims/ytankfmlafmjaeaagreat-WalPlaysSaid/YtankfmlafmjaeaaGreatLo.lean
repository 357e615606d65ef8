/- loosen: a sector comes to be loose. -/
import Derived.Test.YtankfmlafmjaeaaGreatDr
import Derived.StillTailTactics
namespace Go.Proofs.YtankfmlafmjaeaaGreat
set_option maxRecDepth 20000
open Go.RowKit Pm Go.Maps

/-- A load, a store, a copy at the operation, and in a region that draws. -/
theorem wpList_store {P : Program} {w w' : World} {ops : Array Oper} {rest : List Oper} {o : Oper} {a : Act} {Q : Exit → Act → World → Prop} (hgd : o.guard = none) (t : TypeId) (p x : Operand) (ho : o.op = .store t p x) (pv xv : Value) (hp : a.eval p = pv) (hx : a.eval x = xv)
    (hr : (Instr.storeAt t pv xv).run P w = .ok () w') (h : wpList P ops Q rest (a.put o.dst undef) w') : wpList P ops Q (o :: rest) a w := by
  refine wpList_plain hgd fun K hK => ?_
  unfold Oper.wp
  simp [execOp, ho, hp, hx, hr, Result.andThen]
  exact hK _ _ h
theorem wpList_copy {P : Program} {w : World} {ops : Array Oper} {rest : List Oper} {o : Oper} {a : Act} {Q : Exit → Act → World → Prop} (hgd : o.guard = none) (s x : Operand) (t u : TypeId)
    (ho : o.op = .call { callee := .builtin .copy, args := #[s, x], argTypes := #[t, u] }) (v xv : Value) (hs : a.eval s = v) (hx : a.eval x = xv) (R : Value → World → Prop)
    (hr : ∃ v' w', (Builtin.copy_ #[t, u] o.type #[v, xv]).run P w = .ok v' w' ∧ R v' w') (h : ∀ v' w', R v' w' → wpList P ops Q rest (a.put o.dst v') w') : wpList P ops Q (o :: rest) a w := by
  refine wpList_plain hgd fun K hK => ?_
  obtain ⟨v', w', hr, h2⟩ := hr
  unfold Oper.wp execOp
  simp only [ho, resolve, invoke, builtin, Sem.run_bind, Sem.run_pure, Result.andThen_ok, List.map_toArray, List.map_cons, List.map_nil, hs, hx, hr]
  exact hK _ _ (h v' w' h2)
theorem wpList_clear {P : Program} {w : World} {ops : Array Oper} {rest : List Oper} {o : Oper} {a : Act} {Q : Exit → Act → World → Prop} (hgd : o.guard = none) (s : Operand) (t : TypeId)
    (ho : o.op = .call { callee := .builtin .clear, args := #[s], argTypes := #[t] }) (v : Value) (hs : a.eval s = v) (R : World → Prop)
    (hr : ∃ v' w', (Builtin.clear_ #[t] o.type #[v]).run P w = .ok v' w' ∧ v' = .tuple #[] ∧ R w') (h : ∀ w', R w' → wpList P ops Q rest (a.put o.dst (.tuple #[])) w') : wpList P ops Q (o :: rest) a w := by
  refine wpList_plain hgd fun K hK => ?_
  obtain ⟨v', w', hr, rfl, h2⟩ := hr
  unfold Oper.wp execOp
  simp only [ho, resolve, invoke, builtin, Sem.run_bind, Sem.run_pure, Result.andThen_ok, List.map_toArray, List.map_cons, List.map_nil, hs, hr]
  exact hK _ _ (h w' h2)
theorem wpList_upd {P : Program} {w : World} {ops : Array Oper} {rest : List Oper} {o : Oper} {a : Act} {Q : Exit → Act → World → Prop} (hgd : o.guard = none) (t : TypeId) (mo x v : Operand) (ho : o.op = .mapUpdate t mo x v) (mv xv vv : Value) (hm : a.eval mo = mv) (hx : a.eval x = xv) (hv : a.eval v = vv) (R : World → Prop)
    (hr : ∃ w', (Instr.mapUpdate t mv xv vv).run P w = .ok () w' ∧ R w') (h : ∀ w', R w' → wpList P ops Q rest (a.put o.dst undef) w') : wpList P ops Q (o :: rest) a w := by
  refine wpList_plain hgd fun K hK => ?_
  obtain ⟨w', hr, h2⟩ := hr
  unfold Oper.wp
  simp [execOp, ho, hm, hx, hv, hr, Result.andThen]
  exact hK _ _ (h w' h2)
theorem wpStill_load {P : Program} {ops : Array Oper} {w : World} {Q : Act → Prop} {a : Act} {o : Oper} {rest : List Oper} (t : TypeId) (x : Operand) (ho : o.op = .load t x) (xv r : Value) (hx : a.eval x = xv) (hw : Region.wanted o (yielded ops a.tmps) = true)
    (hr : (Instr.loadAt t xv).run P w = .ok r w) (h : wpStill P ops w Q rest (a.put o.dst r)) : wpStill P ops w Q (o :: rest) a := by
  unfold wpStill
  rw [if_pos hw]
  unfold Oper.still
  simp [execOp, ho, hx, hr, Result.andThen, Oper.stillUpon]
  exact h
theorem wpStill_run {P : Program} {ops : Array Oper} {w : World} {Q : Act → Prop} {a : Act} {o : Oper} {rest : List Oper} (r : Value) (hw : Region.wanted o (yielded ops a.tmps) = true)
    (hr : (execOp a.eval o).run P w = .ok (.value r) w) (h : wpStill P ops w Q rest (a.put o.dst r)) : wpStill P ops w Q (o :: rest) a := by
  unfold wpStill
  rw [if_pos hw]
  unfold Oper.still
  rw [hr]
  exact ⟨rfl, h⟩
theorem step_copy {P : Program} {ops : Array Oper} {o : Oper} {a : Act} {w : World} {K : Act → World → Prop} {Q : Exit → Act → World → Prop} {E : Prop} (hgd : o.guard = none) (s x : Operand) (t u : TypeId)
    (ho : o.op = .call { callee := .builtin .copy, args := #[s, x], argTypes := #[t, u] }) (v xv : Value) (hs : a.eval s = v) (hx : a.eval x = xv) (R : Value → World → Prop)
    (hr : ∃ v' w', (Builtin.copy_ #[t, u] o.type #[v, xv]).run P w = .ok v' w' ∧ R v' w') (h : ∀ v' w', R v' w' → K (a.put o.dst v') w') :
    if Region.wanted o (yielded ops a.tmps) = true then Oper.wp P o a w K Q else E := by
  have hw : Region.wanted o (yielded ops a.tmps) = true := by simp [Region.wanted, hgd]
  rw [if_pos hw]
  obtain ⟨v', w', hr, h2⟩ := hr
  unfold Oper.wp execOp
  simp only [ho, resolve, invoke, builtin, Sem.run_bind, Sem.run_pure, Result.andThen_ok, List.map_toArray, List.map_cons, List.map_nil, hs, hx, hr]
  exact h v' w' h2


set_option maxHeartbeats 1000000 in
theorem loosen_wet {lo b g m : Nat} {s : Dk} {w : World} (h : Dr lo b g m s w) (i : Nat) (hi : i < s.wet.length) (hw : s.wet[i] = true) :
    Calls Tryz.prog 73 #[.pointer (some ⟨b, 0, none⟩), .int .i64 (i : Int)] w fun e w' => e = .returned (.tuple #[]) ∧ Fp Non w w' := by
  have c1 := h.c1
  obtain ⟨D, hm⟩ := h.mp
  have h1 := h.rt.hi
  obtain ⟨l, hl, hl0, hlk⟩ := hm.look i hi h1 true
  clear hl0
  rw [hw, if_pos rfl] at hlk
  have hst := store_at (Rw.made w TB (List.replicate 16 0)) 0 l hl (by simp)
  rw [zeros16] at hst
  have hfp : Fp Non w ((w.alloc (.cells #[.int .u8 0, .int .u8 0, .int .u8 0, .int .u8 0, .int .u8 0, .int .u8 0, .int .u8 0, .int .u8 0, .int .u8 0, .int .u8 0, .int .u8 0, .int .u8 0, .int .u8 0, .int .u8 0, .int .u8 0, .int .u8 0] TB)).setRow w.heap.size (Lib.byteCells (spl (List.replicate 16 0) 0 l)).toArray) :=
    ((Fp.refl Non w).alloc _).trans (fp_setRow _ _) (fun k hk => .inr (by omega))
  generalize (Lib.byteCells (spl (List.replicate 16 0) 0 l)).toArray = X at hst hfp
  have HS := Lib.hid hst
  have HF := Lib.hid hfp
  have HL := Lib.hid hlk
  clear hm h hw hst hfp hlk
  go_enter Tryz.func73, Tryz.ntmps73
  go_wp2_with (first
    | (at_lookup; refine wpList_lookup_run rfl TM _ _ _ rfl _ _ _ rfl rfl HL.out ?_)
    | (refine wpList_store rfl TB _ _ rfl _ _ rfl rfl HS.out ?_))
  go_end0
  exact ⟨rfl, HF.out⟩

/-- .. and is kept, if it was not. -/
def loosened (s : Dk) (i : Nat) : Dk := { s with wet := s.wet.set i true }

set_option maxHeartbeats 2000000 in
theorem loosen_dry {lo b g m : Nat} {s : Dk} {w : World} (h : Dr lo b g m s w) (i : Nat) (hi : i < s.wet.length) (hw : s.wet[i] = false) :
    Calls Tryz.prog 73 #[.pointer (some ⟨b, 0, none⟩), .int .i64 (i : Int)] w fun e w' => e = .returned (.tuple #[]) ∧ Mp w' m (s.wet.set i true) s.old ∧ Fp (fun k => k = m) w w' := by
  have c1 := h.c1
  obtain ⟨D, hm⟩ := h.mp
  have h1 := h.rt.hi
  have hcl := h.rt.cl
  obtain ⟨l, hl, hl0, hlk⟩ := hm.look i hi h1 true
  clear hl0
  rw [hw, if_pos rfl] at hlk
  have hst := store_at (Rw.made w TB (List.replicate 16 0)) 0 l hl (by simp)
  rw [zeros16] at hst
  have hfp : Fp Non w ((w.alloc (.cells #[.int .u8 0, .int .u8 0, .int .u8 0, .int .u8 0, .int .u8 0, .int .u8 0, .int .u8 0, .int .u8 0, .int .u8 0, .int .u8 0, .int .u8 0, .int .u8 0, .int .u8 0, .int .u8 0, .int .u8 0, .int .u8 0] TB)).setRow w.heap.size (Lib.byteCells (spl (List.replicate 16 0) 0 l)).toArray) :=
    ((Fp.refl Non w).alloc _).trans (fp_setRow _ _) (fun k hk => .inr (by omega))
  obtain ⟨W1, hW1⟩ : ∃ W1, W1 = (w.alloc (.cells #[.int .u8 0, .int .u8 0, .int .u8 0, .int .u8 0, .int .u8 0, .int .u8 0, .int .u8 0, .int .u8 0, .int .u8 0, .int .u8 0, .int .u8 0, .int .u8 0, .int .u8 0, .int .u8 0, .int .u8 0, .int .u8 0] TB)).setRow w.heap.size (Lib.byteCells (spl (List.replicate 16 0) 0 l)).toArray := ⟨_, rfl⟩
  rw [← hW1] at hst hfp
  clear hW1
  have h2 : Dr lo b g m s W1.drew := h.keep hfp.drew (fun _ _ h => h)
  have d0 : W1.cell? ⟨b, 0, none⟩ = some (.slice (some ⟨g, 0, none⟩) s.wet.length s.wet.length) := (h.keep hfp (fun _ _ h => h)).c0
  have d1 : W1.cell? ⟨b, 1, none⟩ = some (.map (some m)) := (h.keep hfp (fun _ _ h => h)).c1
  have hld : (Instr.loadAt TB (.pointer (some ⟨g, i * 16, none⟩))).run Tryz.prog W1.drew = .ok (agv (blk s.cur i)) W1.drew := load_at h2.row (i * 16) (by omega)
  obtain ⟨D2, hm2⟩ := h2.mp
  have hup := hm2.upd i hi h1 hw (c := blk s.cur i) (h2.rt.dry i hi hw) (blk_len _ _ (by omega))
  have hfin : Hid (∀ w', UpR m (s.wet.set i true) s.old W1.drew w' → Mp w' m (s.wet.set i true) s.old ∧ Fp (fun k => k = m) w w') := fun w' hh => ⟨hh.mp, hfp.any.drew.same hh.fp⟩
  have q1 : ((i : Int) < (s.wet.length : Int)) = True := eq_true (by omega)
  have q2 : (i < s.wet.length) = True := eq_true hi
  generalize s.wet.length = n at d0 q1 q2
  have HS := Lib.hid hst
  have HL := Lib.hid hlk
  have HD := Lib.hid hld
  have HU := Lib.hid hup
  have HX := Lib.hid (And.intro h h2)
  clear hm h hw hst hfp hlk h2 hld hup hm2 hi h1 hcl
  go_enter Tryz.func73, Tryz.ntmps73
  go_wp2_with (first
    | (at_lookup; refine wpList_lookup_run rfl TM _ _ _ rfl _ _ _ rfl rfl HL.out ?_)
    | (refine wpList_store rfl TB _ _ rfl _ _ rfl rfl HS.out ?_))
  go_still_tail 12, (by kernel_rfl)
  refine wpStill_load TB _ rfl _ _ rfl rfl HD.out ?_
  refine wpStill_nil ?_
  change wpList _ _ _ _ _ W1.drew
  go_wp2_with (refine wpList_upd rfl TM _ _ _ rfl _ _ _ rfl rfl rfl _ HU.out ?_)
  intro w' hw'
  have HW := Lib.hid hw'; clear hw'
  go_wp2
  go_end0
  exact ⟨rfl, hfin.out _ HW.out⟩

theorem set_same (l : List Bool) (i : Nat) (h : i < l.length) (hv : l[i] = true) : l.set i true = l := by
  apply List.ext_getElem (by simp)
  intro j h1 h2
  rw [List.getElem_set]
  split
  · rename_i e; subst e; exact hv.symm
  · rfl
/-- loosen: what is loose then; nothing else has turned. -/
theorem loosen_c {lo b g m : Nat} {s : Dk} {w : World} (h : Dr lo b g m s w) (i : Nat) (hi : i < s.wet.length) :
    Calls Tryz.prog 73 #[.pointer (some ⟨b, 0, none⟩), .int .i64 (i : Int)] w fun e w' => e = .returned (.tuple #[]) ∧ UpR m (s.wet.set i true) s.old w w' := by
  cases hw : s.wet[i] with
  | true =>
    refine (loosen_wet h i hi hw).mono ?_
    rintro e w' ⟨rfl, hf⟩
    rw [set_same s.wet i hi hw]
    exact ⟨rfl, h.mp.keep hf (fun h => h), hf.any⟩
  | false =>
    refine (loosen_dry h i hi hw).mono ?_
    rintro e w' ⟨rfl, h1, h2⟩
    exact ⟨rfl, h1, h2⟩
end Go.Proofs.YtankfmlafmjaeaaGreat
