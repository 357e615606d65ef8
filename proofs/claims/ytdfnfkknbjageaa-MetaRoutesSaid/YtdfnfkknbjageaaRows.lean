/-
  No cell of these rows narrows 'for every input' (looked for: loops, veiled, ifaces, maps, wideKeys, modest, calm, conditions, laid).
  DERIVED. THE GIVEN ROWS OF THIS SEAT. 4 by the template 'for every input the law returns true; each argument reads behind the call as it read before'; 0 by the template 'total and deterministic' (their statements: YtdfnfkknbjageaaTotals.lean).
  GIVEN WITH THE SEED: the statements are not yours to turn. If you find one false, say at which input.
  Laid BY PROGRAM, IN A SANDBOX (cutbox-rows.mjs): the forced cells as the released guide's own fill.sh prints them over the translation e982436c60534d42… (all of the seat's roots in one cut). By AI agents, Wed Nov 11 2026. No macro, syntax, notation, axiom, sorry.
-/
import Derived.Test.YtdfnfkknbjageaaChecked
import GoSem.Claim
import GoSem.ClaimJoined
import GoSem.ClaimMapViews
import Derived.JoinedTies
import Derived.KernelRfl
namespace Go.Proofs.Ytdfnfkknbjageaa
/- THE CELL 'sum', in the pinned program and in every row, IS THE sha256 OF THE DUMP (.gsa) THAT YtdfnfkknbjageaaProg.lean LOADS. Nothing in Lean hashes anything: it is a label: what it is worth is what the hold of that sum in a sandbox is worth. -/
noncomputable def Try.pinned : Pinned := { name := "ytdfnfkknbjageaa", sum := "e982436c60534d42b0f03f99293640248a1ea0205add823d2122908534109e3f", checked := Try.checked }
namespace Rows
def none {H : Type} : Left H := { results := [], args := [] }

/-- 'cantonlaw15.MetaStill': WHATEVER THE INPUT: true; the input reads as it did. -/
def metaStillSpec : ChangeSpec := { name := "metaStill", fn := fun _ => fun
  | [d1, d2] => { results := [.lit (.bool true)], args := [d1, d2] }
  | _ => none }
def metaStillRow : OpenClaim := { program := "ytdfnfkknbjageaa", sum := "e982436c60534d42b0f03f99293640248a1ea0205add823d2122908534109e3f", func := "canton/cantonlaw15.MetaStill", spec := "metaStill", inPlace := ["internal/abi.NoEscape", "internal/bytealg.MakeNoZero", "slices.overlaps[canton/api.Mount]"], unfollowed := true, recurses := true, apart := false }
def MetaStillSaid : Prop := metaStillRow.holds Try.pinned (OpenSpec.ofChange metaStillSpec)

/-- ITS FALSE NEIGHBOUR: 'it returns false'. Refute it at one input. -/
def metaStillWrong : ChangeSpec := { name := "metaStill", fn := fun _ => fun
  | [d1, d2] => { results := [.lit (.bool false)], args := [d1, d2] }
  | _ => none }
def MetaStillWrongFalsely : Prop := metaStillRow.holds Try.pinned (OpenSpec.ofChange metaStillWrong)

/-- 'cantonlaw15.MetaRoutes': WHATEVER THE INPUT: true; the input reads as it did. -/
def metaRoutesSpec : ChangeSpec := { name := "metaRoutes", fn := fun _ => fun
  | [d1, d2, d3, d4] => { results := [.lit (.bool true)], args := [d1, d2, d3, d4] }
  | _ => none }
def metaRoutesRow : OpenClaim := { program := "ytdfnfkknbjageaa", sum := "e982436c60534d42b0f03f99293640248a1ea0205add823d2122908534109e3f", func := "canton/cantonlaw15.MetaRoutes", spec := "metaRoutes", inPlace := ["internal/abi.NoEscape", "internal/bytealg.MakeNoZero", "slices.overlaps[canton/api.Mount]"], unfollowed := true, recurses := true, apart := false }
def MetaRoutesSaid : Prop := metaRoutesRow.holds Try.pinned (OpenSpec.ofChange metaRoutesSpec)

/-- ITS FALSE NEIGHBOUR: 'it returns false'. Refute it at one input. -/
def metaRoutesWrong : ChangeSpec := { name := "metaRoutes", fn := fun _ => fun
  | [d1, d2, d3, d4] => { results := [.lit (.bool false)], args := [d1, d2, d3, d4] }
  | _ => none }
def MetaRoutesWrongFalsely : Prop := metaRoutesRow.holds Try.pinned (OpenSpec.ofChange metaRoutesWrong)

/-- 'cantonlaw15.MetaMoves': WHATEVER THE INPUT: true; the input reads as it did. -/
def metaMovesSpec : ChangeSpec := { name := "metaMoves", fn := fun _ => fun
  | [d1, d2, d3, d4] => { results := [.lit (.bool true)], args := [d1, d2, d3, d4] }
  | _ => none }
def metaMovesRow : OpenClaim := { program := "ytdfnfkknbjageaa", sum := "e982436c60534d42b0f03f99293640248a1ea0205add823d2122908534109e3f", func := "canton/cantonlaw15.MetaMoves", spec := "metaMoves", inPlace := ["internal/abi.NoEscape", "internal/bytealg.MakeNoZero", "slices.overlaps[canton/api.Mount]"], unfollowed := true, recurses := true, apart := false }
def MetaMovesSaid : Prop := metaMovesRow.holds Try.pinned (OpenSpec.ofChange metaMovesSpec)

/-- ITS FALSE NEIGHBOUR: 'it returns false'. Refute it at one input. -/
def metaMovesWrong : ChangeSpec := { name := "metaMoves", fn := fun _ => fun
  | [d1, d2, d3, d4] => { results := [.lit (.bool false)], args := [d1, d2, d3, d4] }
  | _ => none }
def MetaMovesWrongFalsely : Prop := metaMovesRow.holds Try.pinned (OpenSpec.ofChange metaMovesWrong)

/-- 'cantonlaw15.MetaOnce': WHATEVER THE INPUT: true; the input reads as it did. -/
def metaOnceSpec : ChangeSpec := { name := "metaOnce", fn := fun _ => fun
  | [d1, d2, d3, d4] => { results := [.lit (.bool true)], args := [d1, d2, d3, d4] }
  | _ => none }
def metaOnceRow : OpenClaim := { program := "ytdfnfkknbjageaa", sum := "e982436c60534d42b0f03f99293640248a1ea0205add823d2122908534109e3f", func := "canton/cantonlaw15.MetaOnce", spec := "metaOnce", inPlace := ["internal/abi.NoEscape", "internal/bytealg.MakeNoZero", "slices.overlaps[canton/api.Mount]"], unfollowed := true, recurses := true, apart := false }
def MetaOnceSaid : Prop := metaOnceRow.holds Try.pinned (OpenSpec.ofChange metaOnceSpec)

/-- ITS FALSE NEIGHBOUR: 'it returns false'. Refute it at one input. -/
def metaOnceWrong : ChangeSpec := { name := "metaOnce", fn := fun _ => fun
  | [d1, d2, d3, d4] => { results := [.lit (.bool false)], args := [d1, d2, d3, d4] }
  | _ => none }
def MetaOnceWrongFalsely : Prop := metaOnceRow.holds Try.pinned (OpenSpec.ofChange metaOnceWrong)

/- THE SECOND FORM. 'bulk': how many values and letters a reading holds, each counted each time it is reached (what is shared counts as often as it is met; a slice's spare places count too). A statement '..UptoSaid' is the law's where the arguments, and the package variables that the reading takes, are together of bulk at most 1048576: NARROWER than '..Said'. Prove '..Said' where nothing that the law and all that it calls make is longer than what came in: it says more and counts as full. Else prove '..UptoSaid'. A law counts once. -/
mutual
def uptoBulk {H : Type} : DataW H → Nat
  | .lit (.string bytes) => bytes.length + 1
  | .lit _ => 1
  | .nil => 1
  | .ptr d => uptoBulk d + 1
  | .slice elems spare => uptoBulkAll elems + uptoBulkAll spare + 1
  | .agg parts => uptoBulkAll parts + 1
  | .iface _ d => uptoBulk d + 1
  | .map entries => uptoBulkEntries entries + 1
  | .held _ => 1
def uptoBulkAll {H : Type} : List (DataW H) → Nat
  | [] => 0
  | d :: r => uptoBulk d + uptoBulkAll r
def uptoBulkEntries {H : Type} : List (Lit × DataW H) → Nat
  | [] => 0
  | x :: r => uptoBulkEntry x + uptoBulkEntries r
def uptoBulkEntry {H : Type} : Lit × DataW H → Nat
  | (.string bytes, d) => bytes.length + uptoBulk d + 1
  | (_, d) => uptoBulk d + 1
 end
def uptoSmall : (H : Type) → List (DataW H) → Bool := fun _ ds => decide (uptoBulkAll ds ≤ 1048576)
def OpenSpec.upto (s : _root_.Go.ChangeSpec) : _root_.Go.OpenSpec := { _root_.Go.OpenSpec.ofChange s with cond := some uptoSmall }

/-- 'cantonlaw15.MetaStill', WHERE WHAT IT READS IS OF BULK AT MOST 1048576: true; the input reads as it did. -/
def metaStillUptoRow : OpenClaim := { program := "ytdfnfkknbjageaa", sum := "e982436c60534d42b0f03f99293640248a1ea0205add823d2122908534109e3f", func := "canton/cantonlaw15.MetaStill", spec := "metaStill", inPlace := ["internal/abi.NoEscape", "internal/bytealg.MakeNoZero", "slices.overlaps[canton/api.Mount]"], unfollowed := true, recurses := true, apart := false, narrowed := true }
def MetaStillUptoSaid : Prop := metaStillUptoRow.holds Try.pinned (OpenSpec.upto metaStillSpec)

/-- 'cantonlaw15.MetaRoutes', WHERE WHAT IT READS IS OF BULK AT MOST 1048576: true; the input reads as it did. -/
def metaRoutesUptoRow : OpenClaim := { program := "ytdfnfkknbjageaa", sum := "e982436c60534d42b0f03f99293640248a1ea0205add823d2122908534109e3f", func := "canton/cantonlaw15.MetaRoutes", spec := "metaRoutes", inPlace := ["internal/abi.NoEscape", "internal/bytealg.MakeNoZero", "slices.overlaps[canton/api.Mount]"], unfollowed := true, recurses := true, apart := false, narrowed := true }
def MetaRoutesUptoSaid : Prop := metaRoutesUptoRow.holds Try.pinned (OpenSpec.upto metaRoutesSpec)

/-- 'cantonlaw15.MetaMoves', WHERE WHAT IT READS IS OF BULK AT MOST 1048576: true; the input reads as it did. -/
def metaMovesUptoRow : OpenClaim := { program := "ytdfnfkknbjageaa", sum := "e982436c60534d42b0f03f99293640248a1ea0205add823d2122908534109e3f", func := "canton/cantonlaw15.MetaMoves", spec := "metaMoves", inPlace := ["internal/abi.NoEscape", "internal/bytealg.MakeNoZero", "slices.overlaps[canton/api.Mount]"], unfollowed := true, recurses := true, apart := false, narrowed := true }
def MetaMovesUptoSaid : Prop := metaMovesUptoRow.holds Try.pinned (OpenSpec.upto metaMovesSpec)

/-- 'cantonlaw15.MetaOnce', WHERE WHAT IT READS IS OF BULK AT MOST 1048576: true; the input reads as it did. -/
def metaOnceUptoRow : OpenClaim := { program := "ytdfnfkknbjageaa", sum := "e982436c60534d42b0f03f99293640248a1ea0205add823d2122908534109e3f", func := "canton/cantonlaw15.MetaOnce", spec := "metaOnce", inPlace := ["internal/abi.NoEscape", "internal/bytealg.MakeNoZero", "slices.overlaps[canton/api.Mount]"], unfollowed := true, recurses := true, apart := false, narrowed := true }
def MetaOnceUptoSaid : Prop := metaOnceUptoRow.holds Try.pinned (OpenSpec.upto metaOnceSpec)

end Rows
end Go.Proofs.Ytdfnfkknbjageaa
