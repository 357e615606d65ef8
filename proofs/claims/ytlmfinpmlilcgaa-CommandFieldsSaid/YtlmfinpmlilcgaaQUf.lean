/- A text of this proof. -/
import Derived.Test.YtlmfinpmlilcgaaQUa0
import Derived.Test.YtlmfinpmlilcgaaQUa1
import Derived.Test.YtlmfinpmlilcgaaQUa2
import Derived.Test.YtlmfinpmlilcgaaQUa3
import Derived.Test.YtlmfinpmlilcgaaQUa4
import Derived.Test.YtlmfinpmlilcgaaQUa5
import Derived.Test.YtlmfinpmlilcgaaQUa6
set_option linter.unusedVariables false
set_option linter.unusedSimpArgs false
/- CommandFields, field 7. (gen_ua.py) -/
namespace Go.Proofs.Ytlmfinpmlilcgaa
set_option maxRecDepth 20000
set_option linter.unusedVariables false
set_option linter.unusedSimpArgs false
open Go.RowKit Pm

theorem CommandFields_c (v : Value) (c : Cd) (n q : Int) (w : World) (hv : CdW w v c) (hln : Ln c) (hn : -9223372036854775808 ≤ n ∧ n ≤ 9223372036854775807) (hq : 0 ≤ q ∧ q ≤ 255) :
    Calls Try.prog 5 #[v, .int .i64 n, .int .u8 q] w fun e w' => e = .returned (.bool true) ∧ Fp Non w w' := by
  have hm : q.tmod 7 = 0 ∨ q.tmod 7 = 1 ∨ q.tmod 7 = 2 ∨ q.tmod 7 = 3 ∨ q.tmod 7 = 4 ∨ q.tmod 7 = 5 ∨ q.tmod 7 = 6 := by
    rw [Int.tmod_eq_emod_of_nonneg hq.1]; omega
  rcases hm with hm | hm | hm | hm | hm | hm | hm
  · exact CommandFields_0 v c n q w hv hln hn hq hm
  · exact CommandFields_1 v c n q w hv hln hn hq hm
  · exact CommandFields_2 v c n q w hv hln hn hq hm
  · exact CommandFields_3 v c n q w hv hln hn hq hm
  · exact CommandFields_4 v c n q w hv hln hn hq hm
  · exact CommandFields_5 v c n q w hv hln hn hq hm
  · exact CommandFields_6 v c n q w hv hln hn hq hm
end Go.Proofs.Ytlmfinpmlilcgaa
