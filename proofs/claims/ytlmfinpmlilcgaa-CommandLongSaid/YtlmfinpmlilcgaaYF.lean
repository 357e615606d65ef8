/- Texts of this proof, merged. -/
import Derived.Test.YtlmfinpmlilcgaaZT
set_option linter.unusedVariables false
set_option linter.unusedSimpArgs false
/- A load, a store of a whole command at the operation. -/
namespace Go.Proofs.Ytlmfinpmlilcgaa
set_option linter.unusedVariables false
set_option linter.unusedSimpArgs false
open Go.RowKit Pm

/-- A load, a store of a whole command at the operation. -/
theorem wpList_ldC {P : Program} {w : World} {ops : Array Oper} {rest : List Oper} {o : Oper} {a : Act} {Q : Exit → Act → World → Prop} (hw : Region.wanted o (yielded ops a.tmps) = true) (t : TypeId) (x : Operand) (ho : o.op = .load t x) (xv r : Value) (hx : a.eval x = xv)
    (hr : (Instr.loadAt t xv).run P w = .ok r w) (h : wpList P ops Q rest (a.put o.dst r) w) : wpList P ops Q (o :: rest) a w := by
  refine wpList_step fun K hK => ?_
  rw [if_pos hw]
  unfold Oper.wp
  simp [execOp, ho, hx, hr, Result.andThen]
  exact hK _ _ h
theorem wpList_stC {P : Program} {w w' : World} {ops : Array Oper} {rest : List Oper} {o : Oper} {a : Act} {Q : Exit → Act → World → Prop} (hgd : o.guard = none) (t : TypeId) (p x : Operand) (ho : o.op = .store t p x) (pv xv : Value) (hp : a.eval p = pv) (hx : a.eval x = xv)
    (hr : (Instr.storeAt t pv xv).run P w = .ok () w') (h : wpList P ops Q rest (a.put o.dst undef) w') : wpList P ops Q (o :: rest) a w := by
  refine wpList_plain hgd fun K hK => ?_
  unfold Oper.wp
  simp [execOp, ho, hp, hx, hr, Result.andThen]
  exact hK _ _ h
theorem run_ldC {P : Program} {w : World} {ev : Operand → Value} {o : Oper} {t : TypeId} {x : Operand} {xv r : Value} (ho : o.op = .load t x) (hx : ev x = xv) (hr : (Instr.loadAt t xv).run P w = .ok r w) : (execOp ev o).run P w = .ok (.value r) w := by
  simp [execOp, ho, hx, hr, Result.andThen]
end Go.Proofs.Ytlmfinpmlilcgaa

