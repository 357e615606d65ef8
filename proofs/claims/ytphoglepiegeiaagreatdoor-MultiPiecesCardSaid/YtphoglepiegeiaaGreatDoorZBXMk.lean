/- A text of this proof. -/
import Derived.Test.YtphoglepiegeiaaGreatDoorZBXMn
set_option linter.unusedSimpArgs false
set_option linter.unusedVariables false
namespace Go.Proofs.YtphoglepiegeiaaGreatDoor
set_option maxRecDepth 20000
open Go.RowKit Pm
theorem MultiPieces_t (v : Value) (t : List Nd) (lv : Value) (l : List Opn) (w : World) (hv : Ns w v t) (hn : t.length ≤ 140737488355328) (hl : Ops w lv l) (_ : True) (ht : Tab w) :
  Calls Tryz.prog 13 #[v, lv] w fun e w' => e = .returned (.bool true) ∧ Fp Non w w' := MultiPieces_c v lv t l w hv hl hn ht
end Go.Proofs.YtphoglepiegeiaaGreatDoor
