/- strings.Builder over this translation (its copyCheck has a refused arm, which no call here comes to), and strings.Join with a slash between. -/
import Derived.Test.YtajgjhkienhpjaaWb
import Derived.Shelf.Strings.BuilderX
import Derived.Lib.Builder
import Derived.Lib.AppendStr
import Derived.Lib.UnsafeStr
import Derived.Lib.MakeNoZero
import Derived.Lib.Join
namespace Go.Proofs.Ytajgjhkienhpjaa
set_option maxRecDepth 20000
open Go.RowKit Pm

theorem strCells_B (s : Bs) : Lib.strCells (B s) = Lib.byteCells s := by rw [Lib.strCells_eq]; rfl

theorem Try.infoBy : (Try.prog.info? 5).map (fun i => (i.zero, i.size, i.bytes)) = some (some (.int .u8 0), 1, 1) := by kernel_rfl
theorem Try.sizeBy : (Try.prog.info? 5).map (·.size) = some 1 := by kernel_rfl
theorem Try.cellsBy : Try.prog.cellsOf 5 = 1 := by kernel_rfl

end Go.Proofs.Ytajgjhkienhpjaa
