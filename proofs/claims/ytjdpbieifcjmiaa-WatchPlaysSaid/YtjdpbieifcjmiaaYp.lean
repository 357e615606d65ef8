/- Package path's functions, as watch uses them. -/
import Derived.Test.YtjdpbieifcjmiaaPb
import Derived.Test.YtjdpbieifcjmiaaRd
namespace Go.Proofs.Ytjdpbieifcjmiaa
open Go.RowKit Pm
theorem In_g (l q : Bs) (w : World) (hl : sz l) (hq : sz q) : Calls Try.prog 38 #[.string (B l), .string (B q)] w fun e w' => e = .returned (.bool (inB l q)) ∧ Gr w w' := In_c l q w hl hq
end Go.Proofs.Ytjdpbieifcjmiaa
