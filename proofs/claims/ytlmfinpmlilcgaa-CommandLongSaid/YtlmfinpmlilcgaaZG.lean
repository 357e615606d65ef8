/- Texts of this proof, merged. -/
import Derived.Test.YtlmfinpmlilcgaaZC
set_option linter.unusedVariables false
set_option linter.unusedSimpArgs false
/- May, kind by kind. -/
namespace Go.Proofs.Ytlmfinpmlilcgaa
set_option maxRecDepth 20000
set_option linter.unusedVariables false
set_option linter.unusedSimpArgs false
open Go.RowKit Pm

end Go.Proofs.Ytlmfinpmlilcgaa

/- May, kind by kind. -/
namespace Go.Proofs.Ytlmfinpmlilcgaa
set_option maxRecDepth 20000
set_option linter.unusedVariables false
set_option linter.unusedSimpArgs false
open Go.RowKit Pm

end Go.Proofs.Ytlmfinpmlilcgaa

/- May, whole. -/
namespace Go.Proofs.Ytlmfinpmlilcgaa
set_option maxRecDepth 20000
set_option linter.unusedVariables false
set_option linter.unusedSimpArgs false
open Go.RowKit Pm

theorem may_kind_false {o : Opn} (h : ¬ (1 ≤ o.kind ∧ o.kind ≤ 7)) : may o = false := by
  cases hm : may o with
  | false => rfl
  | true => have := may_kind hm; omega
theorem may_split_false {o : Opn} (h : (split o.path).isSome = false) : may o = false := by
  cases hm : may o with
  | false => rfl
  | true => rw [may_split hm] at h; cases h

end Go.Proofs.Ytlmfinpmlilcgaa

