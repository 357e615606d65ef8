/- A text of this proof. -/
import Derived.Test.YtlmfinpmlilcgaaYC
import Derived.Test.YtlmfinpmlilcgaaZN
set_option linter.unusedVariables false
set_option linter.unusedSimpArgs false
/- CommandFields: the law's walk. -/
namespace Go.Proofs.Ytlmfinpmlilcgaa
set_option maxRecDepth 20000
set_option linter.unusedVariables false
set_option linter.unusedSimpArgs false
open Go.RowKit Pm

theorem CdR_id {c : Cd} (h : CdR c) (n : Int) : CdR { c with id := n } ↔ num n :=
  ⟨fun g => (areNum6.1 g.nums).1, fun g => ⟨h.kind, h.to, areNum6.2 ⟨g, (areNum6.1 h.nums).2⟩, h.pre, h.wp, h.ps, h.st, h.gone⟩⟩
theorem CdR_txn {c : Cd} (h : CdR c) (n : Int) : CdR { c with txn := n } ↔ num n :=
  ⟨fun g => (areNum6.1 g.nums).2.1, fun g => ⟨h.kind, h.to, areNum6.2 ⟨(areNum6.1 h.nums).1, g, (areNum6.1 h.nums).2.2⟩, h.pre, h.wp, h.ps, h.st, h.gone⟩⟩
theorem CdR_age {c : Cd} (h : CdR c) (n : Int) : CdR { c with age := n } ↔ num n :=
  ⟨fun g => (areNum6.1 g.nums).2.2.1, fun g => ⟨h.kind, h.to, areNum6.2 ⟨(areNum6.1 h.nums).1, (areNum6.1 h.nums).2.1, g, (areNum6.1 h.nums).2.2.2⟩, h.pre, h.wp, h.ps, h.st, h.gone⟩⟩
theorem CdR_ep {c : Cd} (h : CdR c) (n : Int) : CdR { c with ep := n } ↔ num n :=
  ⟨fun g => (areNum6.1 g.nums).2.2.2.1, fun g => ⟨h.kind, h.to, areNum6.2 ⟨(areNum6.1 h.nums).1, (areNum6.1 h.nums).2.1, (areNum6.1 h.nums).2.2.1, g, (areNum6.1 h.nums).2.2.2.2⟩, h.pre, h.wp, h.ps, h.st, h.gone⟩⟩
theorem CdR_ws {c : Cd} (h : CdR c) (n : Int) : CdR { c with ws := n } ↔ num n :=
  ⟨fun g => (areNum6.1 g.nums).2.2.2.2.1, fun g => ⟨h.kind, h.to, areNum6.2 ⟨(areNum6.1 h.nums).1, (areNum6.1 h.nums).2.1, (areNum6.1 h.nums).2.2.1, (areNum6.1 h.nums).2.2.2.1, g, (areNum6.1 h.nums).2.2.2.2.2⟩, h.pre, h.wp, h.ps, h.st, h.gone⟩⟩
theorem CdR_wn {c : Cd} (h : CdR c) (n : Int) : CdR { c with wn := n } ↔ num n :=
  ⟨fun g => (areNum6.1 g.nums).2.2.2.2.2, fun g => ⟨h.kind, h.to, areNum6.2 ⟨(areNum6.1 h.nums).1, (areNum6.1 h.nums).2.1, (areNum6.1 h.nums).2.2.1, (areNum6.1 h.nums).2.2.2.1, (areNum6.1 h.nums).2.2.2.2.1, g⟩, h.pre, h.wp, h.ps, h.st, h.gone⟩⟩
theorem CdR_kd {c : Cd} (h : CdR c) (n : Int) : CdR { c with kind := n } ↔ 1 ≤ n ∧ n ≤ 13 :=
  ⟨fun g => g.kind, fun g => ⟨g, h.to, h.nums, h.pre, h.wp, h.ps, h.st, h.gone⟩⟩

end Go.Proofs.Ytlmfinpmlilcgaa
