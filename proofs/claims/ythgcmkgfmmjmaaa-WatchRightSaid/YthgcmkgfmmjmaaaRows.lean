/-
  No cell of these rows narrows 'for every input' (looked for: loops, veiled, ifaces, maps, wideKeys, modest, calm, conditions, laid).
  DERIVED. THE GIVEN ROWS OF THIS SEAT. 7 by the template 'for every input the law returns true; each argument reads behind the call as it read before'; 0 by the template 'total and deterministic' (their statements: YthgcmkgfmmjmaaaTotals.lean).
  GIVEN WITH THE SEED: the statements are not yours to turn. If you find one false, say at which input.
  Laid BY PROGRAM, IN A SANDBOX (cutbox-rows.mjs): the forced cells as the released guide's own fill.sh prints them over the translation fb3ed859c3c49bb6… (all of the seat's roots in one cut). By AI agents, Wed Nov 11 2026. No macro, syntax, notation, axiom, sorry.
-/
import Derived.Test.YthgcmkgfmmjmaaaChecked
import GoSem.Claim
import GoSem.ClaimJoined
import GoSem.ClaimMapViews
import Derived.JoinedTies
import Derived.KernelRfl
namespace Go.Proofs.Ythgcmkgfmmjmaaa
/- THE CELL 'sum', in the pinned program and in every row, IS THE sha256 OF THE DUMP (.gsa) THAT YthgcmkgfmmjmaaaProg.lean LOADS. Nothing in Lean hashes anything: it is a label: what it is worth is what the hold of that sum in a sandbox is worth. -/
noncomputable def Try.pinned : Pinned := { name := "ythgcmkgfmmjmaaa", sum := "fb3ed859c3c49bb6c1d62e904665c4c27305b00639f7942467b5d7a3b64db81c", checked := Try.checked }
namespace Rows
def none {H : Type} : Left H := { results := [], args := [] }

/-- 'cantonlaw09.WatchPlays': WHATEVER THE INPUT: true; the input reads as it did. -/
def watchPlaysSpec : ChangeSpec := { name := "watchPlays", fn := fun _ => fun
  | [d1, d2] => { results := [.lit (.bool true)], args := [d1, d2] }
  | _ => none }
def watchPlaysRow : OpenClaim := { program := "ythgcmkgfmmjmaaa", sum := "fb3ed859c3c49bb6c1d62e904665c4c27305b00639f7942467b5d7a3b64db81c", func := "canton/cantonlaw09.WatchPlays", spec := "watchPlays", inPlace := ["slices.overlaps[canton/api.Session]"], unfollowed := true, recurses := true, apart := false }
def WatchPlaysSaid : Prop := watchPlaysRow.holds Try.pinned (OpenSpec.ofChange watchPlaysSpec)

/-- ITS FALSE NEIGHBOUR: 'it returns false'. Refute it at one input. -/
def watchPlaysWrong : ChangeSpec := { name := "watchPlays", fn := fun _ => fun
  | [d1, d2] => { results := [.lit (.bool false)], args := [d1, d2] }
  | _ => none }
def WatchPlaysWrongFalsely : Prop := watchPlaysRow.holds Try.pinned (OpenSpec.ofChange watchPlaysWrong)

/-- 'cantonlaw09.WatchRight': WHATEVER THE INPUT: true; the input reads as it did. -/
def watchRightSpec : ChangeSpec := { name := "watchRight", fn := fun _ => fun
  | [d1, d2] => { results := [.lit (.bool true)], args := [d1, d2] }
  | _ => none }
def watchRightRow : OpenClaim := { program := "ythgcmkgfmmjmaaa", sum := "fb3ed859c3c49bb6c1d62e904665c4c27305b00639f7942467b5d7a3b64db81c", func := "canton/cantonlaw09.WatchRight", spec := "watchRight", inPlace := ["slices.overlaps[canton/api.Session]"], unfollowed := true, recurses := true, apart := false }
def WatchRightSaid : Prop := watchRightRow.holds Try.pinned (OpenSpec.ofChange watchRightSpec)

/-- ITS FALSE NEIGHBOUR: 'it returns false'. Refute it at one input. -/
def watchRightWrong : ChangeSpec := { name := "watchRight", fn := fun _ => fun
  | [d1, d2] => { results := [.lit (.bool false)], args := [d1, d2] }
  | _ => none }
def WatchRightWrongFalsely : Prop := watchRightRow.holds Try.pinned (OpenSpec.ofChange watchRightWrong)

/-- 'cantonlaw09.WatchOnce': WHATEVER THE INPUT: true; the input reads as it did. -/
def watchOnceSpec : ChangeSpec := { name := "watchOnce", fn := fun _ => fun
  | [d1, d2] => { results := [.lit (.bool true)], args := [d1, d2] }
  | _ => none }
def watchOnceRow : OpenClaim := { program := "ythgcmkgfmmjmaaa", sum := "fb3ed859c3c49bb6c1d62e904665c4c27305b00639f7942467b5d7a3b64db81c", func := "canton/cantonlaw09.WatchOnce", spec := "watchOnce", inPlace := ["slices.overlaps[canton/api.Session]"], unfollowed := true, recurses := true, apart := false }
def WatchOnceSaid : Prop := watchOnceRow.holds Try.pinned (OpenSpec.ofChange watchOnceSpec)

/-- ITS FALSE NEIGHBOUR: 'it returns false'. Refute it at one input. -/
def watchOnceWrong : ChangeSpec := { name := "watchOnce", fn := fun _ => fun
  | [d1, d2] => { results := [.lit (.bool false)], args := [d1, d2] }
  | _ => none }
def WatchOnceWrongFalsely : Prop := watchOnceRow.holds Try.pinned (OpenSpec.ofChange watchOnceWrong)

/-- 'cantonlaw09.WatchDeep': WHATEVER THE INPUT: true; the input reads as it did. -/
def watchDeepSpec : ChangeSpec := { name := "watchDeep", fn := fun _ => fun
  | [d1, d2, d3] => { results := [.lit (.bool true)], args := [d1, d2, d3] }
  | _ => none }
def watchDeepRow : OpenClaim := { program := "ythgcmkgfmmjmaaa", sum := "fb3ed859c3c49bb6c1d62e904665c4c27305b00639f7942467b5d7a3b64db81c", func := "canton/cantonlaw09.WatchDeep", spec := "watchDeep", inPlace := ["slices.overlaps[canton/api.Session]"], unfollowed := true, recurses := true, apart := false }
def WatchDeepSaid : Prop := watchDeepRow.holds Try.pinned (OpenSpec.ofChange watchDeepSpec)

/-- ITS FALSE NEIGHBOUR: 'it returns false'. Refute it at one input. -/
def watchDeepWrong : ChangeSpec := { name := "watchDeep", fn := fun _ => fun
  | [d1, d2, d3] => { results := [.lit (.bool false)], args := [d1, d2, d3] }
  | _ => none }
def WatchDeepWrongFalsely : Prop := watchDeepRow.holds Try.pinned (OpenSpec.ofChange watchDeepWrong)

/-- 'cantonlaw09.WatchApart': WHATEVER THE INPUT: true; the input reads as it did. -/
def watchApartSpec : ChangeSpec := { name := "watchApart", fn := fun _ => fun
  | [d1, d2] => { results := [.lit (.bool true)], args := [d1, d2] }
  | _ => none }
def watchApartRow : OpenClaim := { program := "ythgcmkgfmmjmaaa", sum := "fb3ed859c3c49bb6c1d62e904665c4c27305b00639f7942467b5d7a3b64db81c", func := "canton/cantonlaw09.WatchApart", spec := "watchApart", inPlace := ["slices.overlaps[canton/api.Session]"], unfollowed := true, recurses := true, apart := false }
def WatchApartSaid : Prop := watchApartRow.holds Try.pinned (OpenSpec.ofChange watchApartSpec)

/-- ITS FALSE NEIGHBOUR: 'it returns false'. Refute it at one input. -/
def watchApartWrong : ChangeSpec := { name := "watchApart", fn := fun _ => fun
  | [d1, d2] => { results := [.lit (.bool false)], args := [d1, d2] }
  | _ => none }
def WatchApartWrongFalsely : Prop := watchApartRow.holds Try.pinned (OpenSpec.ofChange watchApartWrong)

/-- 'cantonlaw09.WatchCloses': WHATEVER THE INPUT: true; the input reads as it did. -/
def watchClosesSpec : ChangeSpec := { name := "watchCloses", fn := fun _ => fun
  | [d1, d2, d3, d4] => { results := [.lit (.bool true)], args := [d1, d2, d3, d4] }
  | _ => none }
def watchClosesRow : OpenClaim := { program := "ythgcmkgfmmjmaaa", sum := "fb3ed859c3c49bb6c1d62e904665c4c27305b00639f7942467b5d7a3b64db81c", func := "canton/cantonlaw09.WatchCloses", spec := "watchCloses", inPlace := ["slices.overlaps[canton/api.Session]"], unfollowed := true, recurses := true, apart := false }
def WatchClosesSaid : Prop := watchClosesRow.holds Try.pinned (OpenSpec.ofChange watchClosesSpec)

/-- ITS FALSE NEIGHBOUR: 'it returns false'. Refute it at one input. -/
def watchClosesWrong : ChangeSpec := { name := "watchCloses", fn := fun _ => fun
  | [d1, d2, d3, d4] => { results := [.lit (.bool false)], args := [d1, d2, d3, d4] }
  | _ => none }
def WatchClosesWrongFalsely : Prop := watchClosesRow.holds Try.pinned (OpenSpec.ofChange watchClosesWrong)

/-- 'cantonlaw09.WatchTakes': WHATEVER THE INPUT: true; the input reads as it did. -/
def watchTakesSpec : ChangeSpec := { name := "watchTakes", fn := fun _ => fun
  | [d1, d2, d3] => { results := [.lit (.bool true)], args := [d1, d2, d3] }
  | _ => none }
def watchTakesRow : OpenClaim := { program := "ythgcmkgfmmjmaaa", sum := "fb3ed859c3c49bb6c1d62e904665c4c27305b00639f7942467b5d7a3b64db81c", func := "canton/cantonlaw09.WatchTakes", spec := "watchTakes", inPlace := ["slices.overlaps[canton/api.Session]"], unfollowed := true, recurses := true, apart := false }
def WatchTakesSaid : Prop := watchTakesRow.holds Try.pinned (OpenSpec.ofChange watchTakesSpec)

/-- ITS FALSE NEIGHBOUR: 'it returns false'. Refute it at one input. -/
def watchTakesWrong : ChangeSpec := { name := "watchTakes", fn := fun _ => fun
  | [d1, d2, d3] => { results := [.lit (.bool false)], args := [d1, d2, d3] }
  | _ => none }
def WatchTakesWrongFalsely : Prop := watchTakesRow.holds Try.pinned (OpenSpec.ofChange watchTakesWrong)

/- THE SECOND FORM. 'bulk': how many values and letters a reading holds, each counted each time it is reached (what is shared counts as often as it is met; a slice's spare places count too). A statement '..UptoSaid' is the law's where the arguments, and the package variables that the reading takes, are together of bulk at most 1048576: NARROWER than '..Said'. Prove '..Said' where nothing that the law and all that it calls make is longer than what came in: it says more and counts as full. Else prove '..UptoSaid'. A law counts once. -/
mutual
def uptoBulk {H : Type} : DataW H → Nat
  | .lit (.string bytes) => bytes.length + 1
  | .lit _ => 1
  | .nil => 1
  | .ptr d => uptoBulk d + 1
  | .slice elems spare => uptoBulkAll elems + uptoBulkAll spare + 1
  | .agg parts => uptoBulkAll parts + 1
  | .iface _ d => uptoBulk d + 1
  | .map entries => uptoBulkEntries entries + 1
  | .held _ => 1
def uptoBulkAll {H : Type} : List (DataW H) → Nat
  | [] => 0
  | d :: r => uptoBulk d + uptoBulkAll r
def uptoBulkEntries {H : Type} : List (Lit × DataW H) → Nat
  | [] => 0
  | x :: r => uptoBulkEntry x + uptoBulkEntries r
def uptoBulkEntry {H : Type} : Lit × DataW H → Nat
  | (.string bytes, d) => bytes.length + uptoBulk d + 1
  | (_, d) => uptoBulk d + 1
 end
def uptoSmall : (H : Type) → List (DataW H) → Bool := fun _ ds => decide (uptoBulkAll ds ≤ 1048576)
def OpenSpec.upto (s : _root_.Go.ChangeSpec) : _root_.Go.OpenSpec := { _root_.Go.OpenSpec.ofChange s with cond := some uptoSmall }

/-- 'cantonlaw09.WatchPlays', WHERE WHAT IT READS IS OF BULK AT MOST 1048576: true; the input reads as it did. -/
def watchPlaysUptoRow : OpenClaim := { program := "ythgcmkgfmmjmaaa", sum := "fb3ed859c3c49bb6c1d62e904665c4c27305b00639f7942467b5d7a3b64db81c", func := "canton/cantonlaw09.WatchPlays", spec := "watchPlays", inPlace := ["slices.overlaps[canton/api.Session]"], unfollowed := true, recurses := true, apart := false, narrowed := true }
def WatchPlaysUptoSaid : Prop := watchPlaysUptoRow.holds Try.pinned (OpenSpec.upto watchPlaysSpec)

/-- 'cantonlaw09.WatchRight', WHERE WHAT IT READS IS OF BULK AT MOST 1048576: true; the input reads as it did. -/
def watchRightUptoRow : OpenClaim := { program := "ythgcmkgfmmjmaaa", sum := "fb3ed859c3c49bb6c1d62e904665c4c27305b00639f7942467b5d7a3b64db81c", func := "canton/cantonlaw09.WatchRight", spec := "watchRight", inPlace := ["slices.overlaps[canton/api.Session]"], unfollowed := true, recurses := true, apart := false, narrowed := true }
def WatchRightUptoSaid : Prop := watchRightUptoRow.holds Try.pinned (OpenSpec.upto watchRightSpec)

/-- 'cantonlaw09.WatchOnce', WHERE WHAT IT READS IS OF BULK AT MOST 1048576: true; the input reads as it did. -/
def watchOnceUptoRow : OpenClaim := { program := "ythgcmkgfmmjmaaa", sum := "fb3ed859c3c49bb6c1d62e904665c4c27305b00639f7942467b5d7a3b64db81c", func := "canton/cantonlaw09.WatchOnce", spec := "watchOnce", inPlace := ["slices.overlaps[canton/api.Session]"], unfollowed := true, recurses := true, apart := false, narrowed := true }
def WatchOnceUptoSaid : Prop := watchOnceUptoRow.holds Try.pinned (OpenSpec.upto watchOnceSpec)

/-- 'cantonlaw09.WatchDeep', WHERE WHAT IT READS IS OF BULK AT MOST 1048576: true; the input reads as it did. -/
def watchDeepUptoRow : OpenClaim := { program := "ythgcmkgfmmjmaaa", sum := "fb3ed859c3c49bb6c1d62e904665c4c27305b00639f7942467b5d7a3b64db81c", func := "canton/cantonlaw09.WatchDeep", spec := "watchDeep", inPlace := ["slices.overlaps[canton/api.Session]"], unfollowed := true, recurses := true, apart := false, narrowed := true }
def WatchDeepUptoSaid : Prop := watchDeepUptoRow.holds Try.pinned (OpenSpec.upto watchDeepSpec)

/-- 'cantonlaw09.WatchApart', WHERE WHAT IT READS IS OF BULK AT MOST 1048576: true; the input reads as it did. -/
def watchApartUptoRow : OpenClaim := { program := "ythgcmkgfmmjmaaa", sum := "fb3ed859c3c49bb6c1d62e904665c4c27305b00639f7942467b5d7a3b64db81c", func := "canton/cantonlaw09.WatchApart", spec := "watchApart", inPlace := ["slices.overlaps[canton/api.Session]"], unfollowed := true, recurses := true, apart := false, narrowed := true }
def WatchApartUptoSaid : Prop := watchApartUptoRow.holds Try.pinned (OpenSpec.upto watchApartSpec)

/-- 'cantonlaw09.WatchCloses', WHERE WHAT IT READS IS OF BULK AT MOST 1048576: true; the input reads as it did. -/
def watchClosesUptoRow : OpenClaim := { program := "ythgcmkgfmmjmaaa", sum := "fb3ed859c3c49bb6c1d62e904665c4c27305b00639f7942467b5d7a3b64db81c", func := "canton/cantonlaw09.WatchCloses", spec := "watchCloses", inPlace := ["slices.overlaps[canton/api.Session]"], unfollowed := true, recurses := true, apart := false, narrowed := true }
def WatchClosesUptoSaid : Prop := watchClosesUptoRow.holds Try.pinned (OpenSpec.upto watchClosesSpec)

/-- 'cantonlaw09.WatchTakes', WHERE WHAT IT READS IS OF BULK AT MOST 1048576: true; the input reads as it did. -/
def watchTakesUptoRow : OpenClaim := { program := "ythgcmkgfmmjmaaa", sum := "fb3ed859c3c49bb6c1d62e904665c4c27305b00639f7942467b5d7a3b64db81c", func := "canton/cantonlaw09.WatchTakes", spec := "watchTakes", inPlace := ["slices.overlaps[canton/api.Session]"], unfollowed := true, recurses := true, apart := false, narrowed := true }
def WatchTakesUptoSaid : Prop := watchTakesUptoRow.holds Try.pinned (OpenSpec.upto watchTakesSpec)

end Rows
end Go.Proofs.Ythgcmkgfmmjmaaa
