/- A text of this proof. -/
import Derived.Deep.DeepHandedRow
import Derived.LaidMore
import Derived.Lib.LaidU8
import Derived.OpenShut
import Derived.ProofKit
import Derived.ShutString
import Derived.SizedLaws
import Derived.Test.YtgafcelloiagmaaGreatDoorCards
import Derived.Test.YtgafcelloiagmaaGreatDoorTie
set_option maxHeartbeats 16000000
set_option linter.unusedSimpArgs false
set_option linter.unusedVariables false
namespace Go.Proofs.YtgafcelloiagmaaGreatDoor.lawShardDecides
open Go.Proofs.Tryz
open Go.ChangeShapes Go.WideShapes Go.ChangeAt Go.RowKit
open Go.WideMaps Go.WideElems
open Go.ChangeMaps (setBlock shut_map_nil open_string shut_string)
theorem joined:joinedFacts Tryz.pinned.checked.prog 8 Tryz.f8 Rows.shardDecidesSpec Rows.shardDecidesRow=true:=by
 unfold joinedFacts;repeat' (with_reducible refine Bool.and_eq_true_iff.mpr ⟨?_,?_⟩)
 all_goals (as_aux_lemma=>kernel_rfl)
end Go.Proofs.YtgafcelloiagmaaGreatDoor.lawShardDecides
