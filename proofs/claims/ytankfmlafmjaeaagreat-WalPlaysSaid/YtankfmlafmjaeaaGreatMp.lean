/- The map of loose sectors. -/
import Derived.Test.YtankfmlafmjaeaaGreatWm
import Derived.Maps.OwnSet
import Derived.Lib.SlKeysI
namespace Go.Proofs.YtankfmlafmjaeaaGreat
set_option maxRecDepth 20000
open Go.RowKit Pm Go.Maps

abbrev TD : TypeId := 61
abbrev TB : TypeId := 63
abbrev TM : TypeId := 59
abbrev TK : TypeId := 3

/-- An array of bytes, as a value. -/
def bcells (l : Bs) : Array Value := (Lib.byteCells l).toArray
abbrev agv (l : Bs) : Value := .agg (bcells l)
theorem bcells_size (l : Bs) : (bcells l).size = l.length := by simp [bcells, Lib.byteCells]

theorem byteCells_inj {a b : Bs} (h : Lib.byteCells a = Lib.byteCells b) : a = b := by
  unfold Lib.byteCells at h
  refine List.map_inj_right (fun x y e => ?_) |>.1 h
  simp only [Value.int.injEq, true_and] at e
  exact UInt8.toNat_inj.1 (by omega)
theorem agv_inj {a b : Bs} (h : agv a = agv b) : a = b := by
  unfold agv bcells at h
  refine byteCells_inj ?_
  have := congrArg (fun v => match v with | Value.agg x => x.toList | _ => []) h
  simpa using this

open Classical in
/-- How a sector reads. -/
noncomputable def RB (v : Value) : Option (DataW Unit × List MemPlace) := if h : ∃ l : Bs, l.length = 16 ∧ v = agv l then some (.lit (.string h.choose), []) else none
theorem RB_mk {l : Bs} (h : l.length = 16) : RB (agv l) = some (.lit (.string l), []) := by
  have hx : ∃ l' : Bs, l'.length = 16 ∧ agv l = agv l' := ⟨l, h, rfl⟩
  unfold RB
  rw [dif_pos hx, ← agv_inj hx.choose_spec.2]
theorem RB_inv {v : Value} {z : DataW Unit × List MemPlace} (h : RB v = some z) : ∃ l : Bs, l.length = 16 ∧ v = agv l ∧ z = (.lit (.string l), []) := by
  unfold RB at h
  split at h
  · rename_i hx
    refine ⟨hx.choose, hx.choose_spec.1, hx.choose_spec.2, ?_⟩
    simpa using h.symm
  · cases h

theorem law : Keyed Tryz.prog TK := int_keyed Tryz.underlying3
theorem zeroB (w : World) : (zeroValue TB).run Tryz.prog w = .ok (agv (List.replicate 16 0)) w := by
  obtain ⟨h, _⟩ : (∀ w, (zeroValue TB).run Tryz.prog w = .ok (.agg (Array.replicate 16 (.int .u8 0))) w) ∧ True := ⟨fun w => by kernel_rfl, trivial⟩
  rw [h]; rfl

/-- Block m is the map of the loose sectors and what they were. -/
structure MpAt (w : World) (m : Nat) (wet : List Bool) (old : Bs) (D : DataW Unit) : Prop where
  own : w.ownsMap Tryz.prog TK RB m (Maps.size D) D
  has : ∀ kl, Maps.has D kl = true ↔ ∃ i, (∃ h : i < wet.length, wet[i] = true) ∧ kl = .int .i64 (i : Int)
  at' : ∀ i (h : i < wet.length), wet[i] = true → ∀ zd, D.atKey (.int .i64 (i : Int)) zd = .lit (.string (blk old i))
def Mp (w : World) (m : Nat) (wet : List Bool) (old : Bs) : Prop := ∃ D, MpAt w m wet old D

theorem lit_inj {i j : Nat} (h : Lit.int .i64 (i : Int) = .int .i64 (j : Int)) : i = j := by
  simp only [Lit.int.injEq, true_and] at h; omega

theorem nodup_lt : ∀ (n : Nat) (l : List Nat), l.Nodup → (∀ x ∈ l, x < n) → l.length ≤ n
  | 0, l, _, h => by
    rcases l with _ | ⟨x, r⟩
    · simp
    · have := h x (by simp); omega
  | n + 1, l, hd, h => by
    have := nodup_lt n (l.erase n) (hd.erase n) (fun x hx => by
      have h1 := (List.Nodup.mem_erase_iff hd).1 hx
      have := h x h1.2
      omega)
    have := List.length_erase (a := n) (l := l)
    split at this <;> omega

theorem MpAt.keys {w : World} {m : Nat} {wet : List Bool} {old : Bs} {D : DataW Unit} (h : MpAt w m wet old D) : ((loose wet).map fun (i : Nat) => (i : Int)).Perm (intKeys D) := by
  obtain ⟨es, rfl, hp, hk⟩ := h.own.entries law
  have hkey : ∀ p ∈ es, ∃ i, (∃ h : i < wet.length, wet[i] = true) ∧ p.1 = .int .i64 (i : Int) := fun p hp' => (h.has p.1).1 (by
    rw [Maps.has_eq, List.any_eq_true]
    exact ⟨p, hp', WideAt.sameKey_self (hk p hp')⟩)
  refine perm_intKeys hp (fun p hp' => by obtain ⟨i, _, e⟩ := hkey p hp'; exact ⟨_, e⟩) ?_ fun x => ?_
  · exact List.pairwise_map.2 ((loose_nodup wet).imp fun hne e => hne (by omega))
  · rw [h.has]
    constructor
    · intro hx
      obtain ⟨i, hi, rfl⟩ := List.mem_map.1 hx
      exact ⟨i, mem_loose.1 hi, rfl⟩
    · rintro ⟨i, hi, e⟩
      obtain rfl : x = (i : Int) := by simpa using e
      exact List.mem_map.2 ⟨i, mem_loose.2 hi, rfl⟩
theorem MpAt.size {w : World} {m : Nat} {wet : List Bool} {old : Bs} {D : DataW Unit} (h : MpAt w m wet old D) : Maps.size D ≤ wet.length := by
  have h1 := h.keys.length_eq
  obtain ⟨es, rfl, _, _⟩ := h.own.entries law
  have h2 : (intKeys (.map es : DataW Unit)).length = es.length := by simp [intKeys]
  rw [Maps.size_eq, ← h2, ← h1, List.length_map]
  exact nodup_lt _ _ (loose_nodup wet) (fun x hx => (mem_loose.1 hx).1)
theorem MpAt.sorted {w : World} {m : Nat} {wet : List Bool} {old : Bs} {D : DataW Unit} (h : MpAt w m wet old D) {ss : List Int} (hs : ss.Perm (intKeys D)) : ss.mergeSort leI = (loose wet).map fun (i : Nat) => (i : Int) := by
  rw [mergeSort_of_perm_i (hs.trans h.keys.symm)]
  refine List.mergeSort_of_pairwise ?_
  refine List.pairwise_map.2 ((loose_sorted wet).imp fun hlt => ?_)
  simp only [decide_eq_true_eq]; omega

theorem Mp.keep {w w' : World} {m : Nat} {wet : List Bool} {old : Bs} (h : Mp w m wet old) {S : Nat → Prop} (f : Fp S w w') (hS : ¬ S m) : Mp w' m wet old := by
  obtain ⟨D, ⟨es, clock, hb, F, hs, e⟩, h2, h3⟩ := h
  exact ⟨D, ⟨es, clock, f.heap hb hS, F, hs, e⟩, h2, h3⟩
theorem Mp.lt {w : World} {m : Nat} {wet : List Bool} {old : Bs} (h : Mp w m wet old) : m < w.heap.size := by
  obtain ⟨D, h, _⟩ := h; exact h.lt
theorem Mp.made (w : World) (n : Nat) (old : Bs) : Mp (w.alloc (.map #[] 0)) w.heap.size (List.replicate n false) old := by
  refine ⟨.map [], World.ownsMap_made w _ _ _, fun kl => ?_, fun i h hw => ?_⟩
  · constructor
    · intro h; simp [Maps.has] at h
    · rintro ⟨i, ⟨h, h2⟩, _⟩; simp at h2
  · simp at hw
/-- A key that is no int's. -/
theorem keyN (i : Nat) (h : i ≤ 4096) : keyOf Tryz.prog TK (.int .i64 (i : Int)) = some (.int .i64 (i : Int)) := keyOf_int_mk Tryz.underlying3 (WalkArith.wf_i64 (by omega))

/-- A sector that was not loose comes to be. -/
theorem MpAt.put {w w' : World} {m : Nat} {wet : List Bool} {old : Bs} {D : DataW Unit} (h : MpAt w m wet old D) (i : Nat) (hi : i < wet.length) (hw : wet[i] = false) {c : Bs} (hc : c = blk old i)
    (ho : w'.ownsMap Tryz.prog TK RB m (Maps.size D + 1) (D.put (.int .i64 (i : Int)) (.lit (.string c)))) : Mp w' m (wet.set i true) old := by
  have hno : Maps.has D (.int .i64 (i : Int)) = false := by
    cases e : Maps.has D (.int .i64 (i : Int)) with
    | false => rfl
    | true =>
      obtain ⟨j, ⟨hj, hj2⟩, e2⟩ := (h.has _).1 e
      obtain rfl : i = j := lit_inj e2
      rw [hw] at hj2; cases hj2
  have hm : IsMap D := h.own.isMap
  have hk : WideAt.IsKeyLit (.int .i64 (i : Int)) := trivial
  have hsz : Maps.size (D.put (.int .i64 (i : Int)) (.lit (.string c))) = Maps.size D + 1 := by
    rw [size_put (h.own.tidy law), hno]; rfl
  refine ⟨_, by rw [hsz]; exact ho, fun kl => ?_, fun j hj hjw zd => ?_⟩
  · by_cases e : kl = .int .i64 (i : Int)
    · subst e
      rw [has_put_same hm hk]
      simp only [true_iff]
      exact ⟨i, ⟨by simpa using hi, by simp⟩, rfl⟩
    · rw [has_put_other e, h.has]
      constructor
      · rintro ⟨j, ⟨hj, hj2⟩, rfl⟩
        have hne : i ≠ j := fun e2 => e (by rw [e2])
        exact ⟨j, ⟨by simpa using hj, by rw [List.getElem_set_ne hne]; exact hj2⟩, rfl⟩
      · rintro ⟨j, ⟨hj, hj2⟩, rfl⟩
        have hne : i ≠ j := fun e2 => e (by rw [e2])
        rw [List.getElem_set_ne hne] at hj2
        exact ⟨j, ⟨by simpa using hj, hj2⟩, rfl⟩
  · by_cases e : i = j
    · subst e
      rw [atKey_put_same hm hk, hc]
    · rw [atKey_put_other (fun e2 => e (lit_inj e2.symm))]
      rw [List.getElem_set_ne e] at hjw
      exact h.at' j (by simpa using hj) hjw zd
/-- Is it loose? -/
theorem MpAt.has_at {w : World} {m : Nat} {wet : List Bool} {old : Bs} {D : DataW Unit} (h : MpAt w m wet old D) (i : Nat) (hi : i < wet.length) : Maps.has D (.int .i64 (i : Int)) = wet[i] := by
  cases e : wet[i] with
  | true => exact (h.has _).2 ⟨i, ⟨hi, e⟩, rfl⟩
  | false =>
    cases e2 : Maps.has D (.int .i64 (i : Int)) with
    | false => rfl
    | true =>
      obtain ⟨j, ⟨hj, hj2⟩, e3⟩ := (h.has _).1 e2
      obtain rfl : i = j := lit_inj e3
      rw [e] at hj2; cases hj2
/-- A look-up: what comes is a sector. -/
theorem MpAt.look {w : World} {m : Nat} {wet : List Bool} {old : Bs} {D : DataW Unit} (h : MpAt w m wet old D) (i : Nat) (hi : i < wet.length) (hw : wet.length ≤ 4096) (c : Bool) :
    ∃ l : Bs, l.length = 16 ∧ (wet[i] = true → l = blk old i) ∧ (Instr.lookup TM (.map (some m)) (.int .i64 (i : Int)) c).run Tryz.prog w = .ok (if c then .tuple #[agv l, .bool wet[i]] else agv l) w := by
  have hkey := keyN i (by omega)
  have hz : RB (agv (List.replicate 16 0)) = some (.lit (.string (List.replicate 16 0)), []) := RB_mk rfl
  have hd : ∀ l : Bs, (DataW.lit (.string l) : DataW Unit) = D.atKey (.int .i64 (i : Int)) (.lit (.string (List.replicate 16 0))) → (wet[i] = true → l = blk old i) := fun l e hw => by
    rw [h.at' i hi hw] at e; simpa using e
  cases c with
  | true =>
    obtain ⟨v, ps, hr, hv⟩ := h.own.look_ok law Tryz.underlying59 (zeroB w) hz hkey
    obtain ⟨l, hl, rfl, e⟩ := RB_inv hv
    refine ⟨l, hl, hd l (congrArg Prod.fst e).symm, ?_⟩
    rw [hr, h.has_at i hi]; rfl
  | false =>
    obtain ⟨v, ps, hr, hv⟩ := h.own.lookup law Tryz.underlying59 (zeroB w) hz hkey
    obtain ⟨l, hl, rfl, e⟩ := RB_inv hv
    exact ⟨l, hl, hd l (congrArg Prod.fst e).symm, hr⟩
theorem wpList_lookup_run {P : Program} {w : World} {ops : Array Oper} {rest : List Oper} {o : Oper} {a : Act} {Q : Exit → Act → World → Prop} (hgd : o.guard = none) (t : TypeId) (mo x : Operand) (c : Bool) (ho : o.op = .lookup t mo x c) (mv xv r : Value) (hm : a.eval mo = mv) (hx : a.eval x = xv)
    (hr : (Instr.lookup t mv xv c).run P w = .ok r w) (h : wpList P ops Q rest (a.put o.dst r) w) : wpList P ops Q (o :: rest) a w := by
  refine wpList_plain hgd fun K hK => ?_
  unfold Oper.wp
  simp [execOp, ho, hm, hx, hr, Result.andThen]
  exact hK _ _ h
/-- Behind a store. -/
structure UpR (m : Nat) (wet : List Bool) (old : Bs) (w w' : World) : Prop where
  mp : Mp w' m wet old
  fp : Fp (fun k => k = m) w w'
/-- Behind clear. -/
structure ClR (m : Nat) (w w' : World) : Prop where
  mp : ∀ n old, Mp w' m (List.replicate n false) old
  fp : Fp (fun k => k = m) w w'
set_option maxRecDepth 20000 in
/-- A store. -/
theorem MpAt.upd {w : World} {m : Nat} {wet : List Bool} {old : Bs} {D : DataW Unit} (h : MpAt w m wet old D) (i : Nat) (hi : i < wet.length) (hw : wet.length ≤ 4096) (hd : wet[i] = false) {c : Bs} (hc : c = blk old i) (hl : c.length = 16) :
    ∃ w', (Instr.mapUpdate TM (.map (some m)) (.int .i64 (i : Int)) (agv c)).run Tryz.prog w = .ok () w' ∧ UpR m (wet.set i true) old w w' := by
  have hsz := h.size
  obtain ⟨w', hr, ho, hg⟩ := h.own.update law Tryz.underlying59 (by unfold maxLen; omega) (keyN i (by omega)) (RB_mk hl)
  exact ⟨w', hr, h.put i hi hd hc ho, (Fp.refl _ w).grown hg (fun k hk => .inl (by injection hk with hk; exact hk.symm))⟩
theorem step_upd {P : Program} {ops : Array Oper} {o : Oper} {a : Act} {w : World} {K : Act → World → Prop} {Q : Exit → Act → World → Prop} {E : Prop} (hgd : o.guard = none) (t : TypeId) (mo x v : Operand)
    (ho : o.op = .mapUpdate t mo x v) (mv xv vv : Value) (hm : a.eval mo = mv) (hx : a.eval x = xv) (hv : a.eval v = vv) (R : World → Prop)
    (hr : ∃ w', (Instr.mapUpdate t mv xv vv).run P w = .ok () w' ∧ R w') (h : ∀ w', R w' → K (a.put o.dst undef) w') :
    if Region.wanted o (yielded ops a.tmps) = true then Oper.wp P o a w K Q else E := by
  have hw : Region.wanted o (yielded ops a.tmps) = true := by simp [Region.wanted, hgd]
  rw [if_pos hw]
  obtain ⟨w', hr, h2⟩ := hr
  unfold Oper.wp
  simp [execOp, ho, hm, hx, hv, hr, Result.andThen]
  exact h w' h2
theorem step_load {P : Program} {ops : Array Oper} {o : Oper} {a : Act} {w : World} {K : Act → World → Prop} {Q : Exit → Act → World → Prop} {E : Prop} (hgd : o.guard = none) (t : TypeId) (x : Operand)
    (ho : o.op = .load t x) (xv r : Value) (hx : a.eval x = xv) (hr : (Instr.loadAt t xv).run P w = .ok r w) (h : K (a.put o.dst r) w) :
    if Region.wanted o (yielded ops a.tmps) = true then Oper.wp P o a w K Q else E := by
  have hw : Region.wanted o (yielded ops a.tmps) = true := by simp [Region.wanted, hgd]
  rw [if_pos hw]
  unfold Oper.wp
  simp [execOp, ho, hx, hr, Result.andThen]
  exact h
/-- clear. -/
theorem Mp.clear {w : World} {m : Nat} {wet : List Bool} {old : Bs} (h : Mp w m wet old) (ty : TypeId) :
    ∃ v w', (Builtin.clear_ #[TM] ty #[.map (some m)]).run Tryz.prog w = .ok v w' ∧ v = .tuple #[] ∧ ClR m w w' := by
  obtain ⟨D, ⟨es, clock, hb, F, hs, e⟩, h2, h3⟩ := h
  have hlt := (Array.getElem?_eq_some_iff.1 hb).1
  have hs0 : MapKept.Stamped #[] clock := ⟨fun x hx => by simp at hx, by simp, by simp⟩
  have hrun : (Builtin.clear_ #[TM] ty #[.map (some m)]).run Tryz.prog w = .ok (.tuple #[]) { w with heap := w.heap.setIfInBounds m (.map #[] clock) } := by
    simp [Builtin.clear_, run_underlying Tryz.underlying59, MapKept.run_getObj_map hb, MapKept.run_setObj_map _ hb, Result.andThen]
  have hb' : ({ w with heap := w.heap.setIfInBounds m (.map #[] clock) } : World).heap[m]? = some (.map #[] clock) := by
    simp [hlt]
  refine ⟨_, _, hrun, rfl, fun n old' => ?_, rfl, rfl, rfl, by simp, fun k hk hne => ?_⟩
  · refine ⟨.map [], ⟨#[], clock, hb', ⟨by simp, hs0, fun x hx => by simp at hx⟩, by simp, rfl⟩, fun kl => ?_, fun i h hw => ?_⟩
    · constructor
      · intro h; simp [Maps.has] at h
      · rintro ⟨i, ⟨h, h2⟩, _⟩; simp at h2
    · simp at hw
  · simp [Ne.symm hne]
end Go.Proofs.YtankfmlafmjaeaaGreat
