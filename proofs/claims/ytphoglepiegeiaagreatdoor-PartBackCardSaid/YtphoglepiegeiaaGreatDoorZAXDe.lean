/- A text of this proof. -/
import Derived.Test.YtphoglepiegeiaaGreatDoorZAV
namespace Go.Proofs.YtphoglepiegeiaaGreatDoor
set_option linter.unusedSimpArgs false
set_option linter.unusedVariables false
set_option maxRecDepth 20000
set_option linter.unusedVariables false
set_option linter.unusedSimpArgs false
open Go.RowKit Pm
end Go.Proofs.YtphoglepiegeiaaGreatDoor
