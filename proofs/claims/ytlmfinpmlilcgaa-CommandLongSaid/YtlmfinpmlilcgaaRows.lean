/-
  No cell of these rows narrows 'for every input' (looked for: loops, veiled, ifaces, maps, wideKeys, modest, calm, conditions, laid).
  DERIVED. THE GIVEN ROWS OF THIS SEAT. 4 by the template 'for every input the law returns true; each argument reads behind the call as it read before'; 0 by the template 'total and deterministic' (their statements: YtlmfinpmlilcgaaTotals.lean).
  GIVEN WITH THE SEED: the statements are not yours to turn. If you find one false, say at which input.
  Laid BY PROGRAM, IN A SANDBOX (cutbox-rows.mjs): the forced cells as the released guide's own fill.sh prints them over the translation f2806d720d16012e… (all of the seat's roots in one cut). By AI agents, Wed Nov 11 2026. No macro, syntax, notation, axiom, sorry.
-/
import Derived.Test.YtlmfinpmlilcgaaChecked
import GoSem.Claim
import GoSem.ClaimJoined
import GoSem.ClaimMapViews
import Derived.JoinedTies
import Derived.KernelRfl
namespace Go.Proofs.Ytlmfinpmlilcgaa
/- THE CELL 'sum', in the pinned program and in every row, IS THE sha256 OF THE DUMP (.gsa) THAT YtlmfinpmlilcgaaProg.lean LOADS. Nothing in Lean hashes anything: it is a label: what it is worth is what the hold of that sum in a sandbox is worth. -/
noncomputable def Try.pinned : Pinned := { name := "ytlmfinpmlilcgaa", sum := "f2806d720d16012e6196ae6edaee8eb2893d0196eb3f2279dec80bf8486ccf34", checked := Try.checked }
namespace Rows
def none {H : Type} : Left H := { results := [], args := [] }

/-- 'cantonlaw12.CommandBack': WHATEVER THE INPUT: true; the input reads as it did. -/
def commandBackSpec : ChangeSpec := { name := "commandBack", fn := fun _ => fun
  | [d1, d2] => { results := [.lit (.bool true)], args := [d1, d2] }
  | _ => none }
def commandBackRow : OpenClaim := { program := "ytlmfinpmlilcgaa", sum := "f2806d720d16012e6196ae6edaee8eb2893d0196eb3f2279dec80bf8486ccf34", func := "canton/cantonlaw12.CommandBack", spec := "commandBack", inPlace := ["internal/abi.NoEscape", "internal/bytealg.MakeNoZero"], unfollowed := true, recurses := true, apart := false }
def CommandBackSaid : Prop := commandBackRow.holds Try.pinned (OpenSpec.ofChange commandBackSpec)

/-- ITS FALSE NEIGHBOUR: 'it returns false'. Refute it at one input. -/
def commandBackWrong : ChangeSpec := { name := "commandBack", fn := fun _ => fun
  | [d1, d2] => { results := [.lit (.bool false)], args := [d1, d2] }
  | _ => none }
def CommandBackWrongFalsely : Prop := commandBackRow.holds Try.pinned (OpenSpec.ofChange commandBackWrong)

/-- 'cantonlaw12.CommandCut': WHATEVER THE INPUT: true; the input reads as it did. -/
def commandCutSpec : ChangeSpec := { name := "commandCut", fn := fun _ => fun
  | [d1, d2, d3, d4] => { results := [.lit (.bool true)], args := [d1, d2, d3, d4] }
  | _ => none }
def commandCutRow : OpenClaim := { program := "ytlmfinpmlilcgaa", sum := "f2806d720d16012e6196ae6edaee8eb2893d0196eb3f2279dec80bf8486ccf34", func := "canton/cantonlaw12.CommandCut", spec := "commandCut", inPlace := ["internal/abi.NoEscape", "internal/bytealg.MakeNoZero"], unfollowed := true, recurses := true, apart := false }
def CommandCutSaid : Prop := commandCutRow.holds Try.pinned (OpenSpec.ofChange commandCutSpec)

/-- ITS FALSE NEIGHBOUR: 'it returns false'. Refute it at one input. -/
def commandCutWrong : ChangeSpec := { name := "commandCut", fn := fun _ => fun
  | [d1, d2, d3, d4] => { results := [.lit (.bool false)], args := [d1, d2, d3, d4] }
  | _ => none }
def CommandCutWrongFalsely : Prop := commandCutRow.holds Try.pinned (OpenSpec.ofChange commandCutWrong)

/-- 'cantonlaw12.CommandFields': WHATEVER THE INPUT: true; the input reads as it did. -/
def commandFieldsSpec : ChangeSpec := { name := "commandFields", fn := fun _ => fun
  | [d1, d2, d3] => { results := [.lit (.bool true)], args := [d1, d2, d3] }
  | _ => none }
def commandFieldsRow : OpenClaim := { program := "ytlmfinpmlilcgaa", sum := "f2806d720d16012e6196ae6edaee8eb2893d0196eb3f2279dec80bf8486ccf34", func := "canton/cantonlaw12.CommandFields", spec := "commandFields", inPlace := ["internal/abi.NoEscape", "internal/bytealg.MakeNoZero"], unfollowed := true, recurses := true, apart := false }
def CommandFieldsSaid : Prop := commandFieldsRow.holds Try.pinned (OpenSpec.ofChange commandFieldsSpec)

/-- ITS FALSE NEIGHBOUR: 'it returns false'. Refute it at one input. -/
def commandFieldsWrong : ChangeSpec := { name := "commandFields", fn := fun _ => fun
  | [d1, d2, d3] => { results := [.lit (.bool false)], args := [d1, d2, d3] }
  | _ => none }
def CommandFieldsWrongFalsely : Prop := commandFieldsRow.holds Try.pinned (OpenSpec.ofChange commandFieldsWrong)

/-- 'cantonlaw12.CommandLong': WHATEVER THE INPUT: true; the input reads as it did. -/
def commandLongSpec : ChangeSpec := { name := "commandLong", fn := fun _ => fun
  | [d1, d2] => { results := [.lit (.bool true)], args := [d1, d2] }
  | _ => none }
def commandLongRow : OpenClaim := { program := "ytlmfinpmlilcgaa", sum := "f2806d720d16012e6196ae6edaee8eb2893d0196eb3f2279dec80bf8486ccf34", func := "canton/cantonlaw12.CommandLong", spec := "commandLong", inPlace := ["internal/abi.NoEscape", "internal/bytealg.MakeNoZero"], unfollowed := true, recurses := true, apart := false }
def CommandLongSaid : Prop := commandLongRow.holds Try.pinned (OpenSpec.ofChange commandLongSpec)

/-- ITS FALSE NEIGHBOUR: 'it returns false'. Refute it at one input. -/
def commandLongWrong : ChangeSpec := { name := "commandLong", fn := fun _ => fun
  | [d1, d2] => { results := [.lit (.bool false)], args := [d1, d2] }
  | _ => none }
def CommandLongWrongFalsely : Prop := commandLongRow.holds Try.pinned (OpenSpec.ofChange commandLongWrong)

/- THE SECOND FORM. 'bulk': how many values and letters a reading holds, each counted each time it is reached (what is shared counts as often as it is met; a slice's spare places count too). A statement '..UptoSaid' is the law's where the arguments, and the package variables that the reading takes, are together of bulk at most 1048576: NARROWER than '..Said'. Prove '..Said' where nothing that the law and all that it calls make is longer than what came in: it says more and counts as full. Else prove '..UptoSaid'. A law counts once. -/
mutual
def uptoBulk {H : Type} : DataW H → Nat
  | .lit (.string bytes) => bytes.length + 1
  | .lit _ => 1
  | .nil => 1
  | .ptr d => uptoBulk d + 1
  | .slice elems spare => uptoBulkAll elems + uptoBulkAll spare + 1
  | .agg parts => uptoBulkAll parts + 1
  | .iface _ d => uptoBulk d + 1
  | .map entries => uptoBulkEntries entries + 1
  | .held _ => 1
def uptoBulkAll {H : Type} : List (DataW H) → Nat
  | [] => 0
  | d :: r => uptoBulk d + uptoBulkAll r
def uptoBulkEntries {H : Type} : List (Lit × DataW H) → Nat
  | [] => 0
  | x :: r => uptoBulkEntry x + uptoBulkEntries r
def uptoBulkEntry {H : Type} : Lit × DataW H → Nat
  | (.string bytes, d) => bytes.length + uptoBulk d + 1
  | (_, d) => uptoBulk d + 1
 end
def uptoSmall : (H : Type) → List (DataW H) → Bool := fun _ ds => decide (uptoBulkAll ds ≤ 1048576)
def OpenSpec.upto (s : _root_.Go.ChangeSpec) : _root_.Go.OpenSpec := { _root_.Go.OpenSpec.ofChange s with cond := some uptoSmall }

/-- 'cantonlaw12.CommandBack', WHERE WHAT IT READS IS OF BULK AT MOST 1048576: true; the input reads as it did. -/
def commandBackUptoRow : OpenClaim := { program := "ytlmfinpmlilcgaa", sum := "f2806d720d16012e6196ae6edaee8eb2893d0196eb3f2279dec80bf8486ccf34", func := "canton/cantonlaw12.CommandBack", spec := "commandBack", inPlace := ["internal/abi.NoEscape", "internal/bytealg.MakeNoZero"], unfollowed := true, recurses := true, apart := false, narrowed := true }
def CommandBackUptoSaid : Prop := commandBackUptoRow.holds Try.pinned (OpenSpec.upto commandBackSpec)

/-- 'cantonlaw12.CommandCut', WHERE WHAT IT READS IS OF BULK AT MOST 1048576: true; the input reads as it did. -/
def commandCutUptoRow : OpenClaim := { program := "ytlmfinpmlilcgaa", sum := "f2806d720d16012e6196ae6edaee8eb2893d0196eb3f2279dec80bf8486ccf34", func := "canton/cantonlaw12.CommandCut", spec := "commandCut", inPlace := ["internal/abi.NoEscape", "internal/bytealg.MakeNoZero"], unfollowed := true, recurses := true, apart := false, narrowed := true }
def CommandCutUptoSaid : Prop := commandCutUptoRow.holds Try.pinned (OpenSpec.upto commandCutSpec)

/-- 'cantonlaw12.CommandFields', WHERE WHAT IT READS IS OF BULK AT MOST 1048576: true; the input reads as it did. -/
def commandFieldsUptoRow : OpenClaim := { program := "ytlmfinpmlilcgaa", sum := "f2806d720d16012e6196ae6edaee8eb2893d0196eb3f2279dec80bf8486ccf34", func := "canton/cantonlaw12.CommandFields", spec := "commandFields", inPlace := ["internal/abi.NoEscape", "internal/bytealg.MakeNoZero"], unfollowed := true, recurses := true, apart := false, narrowed := true }
def CommandFieldsUptoSaid : Prop := commandFieldsUptoRow.holds Try.pinned (OpenSpec.upto commandFieldsSpec)

/-- 'cantonlaw12.CommandLong', WHERE WHAT IT READS IS OF BULK AT MOST 1048576: true; the input reads as it did. -/
def commandLongUptoRow : OpenClaim := { program := "ytlmfinpmlilcgaa", sum := "f2806d720d16012e6196ae6edaee8eb2893d0196eb3f2279dec80bf8486ccf34", func := "canton/cantonlaw12.CommandLong", spec := "commandLong", inPlace := ["internal/abi.NoEscape", "internal/bytealg.MakeNoZero"], unfollowed := true, recurses := true, apart := false, narrowed := true }
def CommandLongUptoSaid : Prop := commandLongUptoRow.holds Try.pinned (OpenSpec.upto commandLongSpec)

end Rows
end Go.Proofs.Ytlmfinpmlilcgaa
