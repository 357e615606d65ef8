/-
  DERIVED. GIVEN WITH THE SEED: THE CARDS: each row of YtgafcelloiagmaaGreatDoorRows.lean that lists a variable, with what it lists TIED to the program's text (the seventh form; the later family's looks); each row that meets fmt, with fmt's text TOLD by the authors' own Lean function (tested against real Go, not proved from fmt's source: count such statements apart). THE CARD IS WHAT COUNTS. Prove the row's statement (the work); the ties are given (YtgafcelloiagmaaGreatDoorTie.lean); close each card by the builder's one call (the guide's Derived/Test/ToyasCard.lean, 'card_holds'). Laid BY PROGRAM, IN A SANDBOX (cutbox-door.mjs). By AI agents, Wed Nov 11 2026. No macro, syntax, notation, axiom, sorry.
-/
import Derived.Test.YtgafcelloiagmaaGreatDoorRows
import GoSem.ClaimSeven
namespace Go.Proofs.YtgafcelloiagmaaGreatDoor
namespace Rows

/-- THE TIED CARD OF 'cantonlaw13.ShardRight'. -/
def shardRightCard : Claim7 := { stood := { row := shardRightRow, standIns := [], harness := (true, "fc6d465922fcce3810cf955aae2e49bec13ecdabd21f17efd66cd51911bc2dec"), looks := false }, kinds := [], alts := [], laidByText := true, laidKinds := [.data, .data, .data], laidTests := true, laidLooks := .later }
def ShardRightCardSaid : Prop := Claim7.holds Tryz.pinned (.plain (OpenSpec.ofChange shardRightSpec)) shardRightCard

/-- THE TIED CARD OF 'cantonlaw13.ShardHeld'. -/
def shardHeldCard : Claim7 := { stood := { row := shardHeldRow, standIns := [], harness := (true, "fc6d465922fcce3810cf955aae2e49bec13ecdabd21f17efd66cd51911bc2dec"), looks := false }, kinds := [], alts := [], laidByText := true, laidKinds := [.data, .data, .data], laidTests := true, laidLooks := .later }
def ShardHeldCardSaid : Prop := Claim7.holds Tryz.pinned (.plain (OpenSpec.ofChange shardHeldSpec)) shardHeldCard

/-- THE TIED CARD OF 'cantonlaw13.ShardOnce'. -/
def shardOnceCard : Claim7 := { stood := { row := shardOnceRow, standIns := [], harness := (true, "fc6d465922fcce3810cf955aae2e49bec13ecdabd21f17efd66cd51911bc2dec"), looks := false }, kinds := [], alts := [], laidByText := true, laidKinds := [.data, .data, .data], laidTests := true, laidLooks := .later }
def ShardOnceCardSaid : Prop := Claim7.holds Tryz.pinned (.plain (OpenSpec.ofChange shardOnceSpec)) shardOnceCard

/-- THE TIED CARD OF 'cantonlaw13.ShardMoves'. -/
def shardMovesCard : Claim7 := { stood := { row := shardMovesRow, standIns := [], harness := (true, "fc6d465922fcce3810cf955aae2e49bec13ecdabd21f17efd66cd51911bc2dec"), looks := false }, kinds := [], alts := [], laidByText := true, laidKinds := [.data, .data, .data], laidTests := true, laidLooks := .later }
def ShardMovesCardSaid : Prop := Claim7.holds Tryz.pinned (.plain (OpenSpec.ofChange shardMovesSpec)) shardMovesCard

/-- THE TIED CARD OF 'cantonlaw13.ShardRuns'. -/
def shardRunsCard : Claim7 := { stood := { row := shardRunsRow, standIns := [], harness := (true, "fc6d465922fcce3810cf955aae2e49bec13ecdabd21f17efd66cd51911bc2dec"), looks := false }, kinds := [], alts := [], laidByText := true, laidKinds := [.data, .data, .data], laidTests := true, laidLooks := .later }
def ShardRunsCardSaid : Prop := Claim7.holds Tryz.pinned (.plain (OpenSpec.ofChange shardRunsSpec)) shardRunsCard

/-- THE TIED CARD OF 'cantonlaw13.ShardDecides'. -/
def shardDecidesCard : Claim7 := { stood := { row := shardDecidesRow, standIns := [], harness := (true, "fc6d465922fcce3810cf955aae2e49bec13ecdabd21f17efd66cd51911bc2dec"), looks := false }, kinds := [], alts := [], laidByText := true, laidKinds := [.data, .data, .data], laidTests := true, laidLooks := .later }
def ShardDecidesCardSaid : Prop := Claim7.holds Tryz.pinned (.plain (OpenSpec.ofChange shardDecidesSpec)) shardDecidesCard

/-- THE TIED CARD OF 'cantonlaw13.ShardLate'. -/
def shardLateCard : Claim7 := { stood := { row := shardLateRow, standIns := [], harness := (true, "fc6d465922fcce3810cf955aae2e49bec13ecdabd21f17efd66cd51911bc2dec"), looks := false }, kinds := [], alts := [], laidByText := true, laidKinds := [.data, .data, .data], laidTests := true, laidLooks := .later }
def ShardLateCardSaid : Prop := Claim7.holds Tryz.pinned (.plain (OpenSpec.ofChange shardLateSpec)) shardLateCard

/-- THE TIED CARD OF 'cantonlaw13.ShardWatches'. -/
def shardWatchesCard : Claim7 := { stood := { row := shardWatchesRow, standIns := [], harness := (true, "fc6d465922fcce3810cf955aae2e49bec13ecdabd21f17efd66cd51911bc2dec"), looks := false }, kinds := [], alts := [], laidByText := true, laidKinds := [.data, .data, .data], laidTests := true, laidLooks := .later }
def ShardWatchesCardSaid : Prop := Claim7.holds Tryz.pinned (.plain (OpenSpec.ofChange shardWatchesSpec)) shardWatchesCard

/-- THE SECOND FORM's CARD OF 'cantonlaw13.ShardRight'. -/
def shardRightUptoCard : Claim7 := { stood := { row := shardRightUptoRow, standIns := [], harness := (true, "fc6d465922fcce3810cf955aae2e49bec13ecdabd21f17efd66cd51911bc2dec"), looks := false }, kinds := [], alts := [], laidByText := true, laidKinds := [.data, .data, .data], laidTests := true, laidLooks := .later }
def ShardRightUptoCardSaid : Prop := Claim7.holds Tryz.pinned (.plain (OpenSpec.upto shardRightSpec)) shardRightUptoCard

/-- THE SECOND FORM's CARD OF 'cantonlaw13.ShardHeld'. -/
def shardHeldUptoCard : Claim7 := { stood := { row := shardHeldUptoRow, standIns := [], harness := (true, "fc6d465922fcce3810cf955aae2e49bec13ecdabd21f17efd66cd51911bc2dec"), looks := false }, kinds := [], alts := [], laidByText := true, laidKinds := [.data, .data, .data], laidTests := true, laidLooks := .later }
def ShardHeldUptoCardSaid : Prop := Claim7.holds Tryz.pinned (.plain (OpenSpec.upto shardHeldSpec)) shardHeldUptoCard

/-- THE SECOND FORM's CARD OF 'cantonlaw13.ShardOnce'. -/
def shardOnceUptoCard : Claim7 := { stood := { row := shardOnceUptoRow, standIns := [], harness := (true, "fc6d465922fcce3810cf955aae2e49bec13ecdabd21f17efd66cd51911bc2dec"), looks := false }, kinds := [], alts := [], laidByText := true, laidKinds := [.data, .data, .data], laidTests := true, laidLooks := .later }
def ShardOnceUptoCardSaid : Prop := Claim7.holds Tryz.pinned (.plain (OpenSpec.upto shardOnceSpec)) shardOnceUptoCard

/-- THE SECOND FORM's CARD OF 'cantonlaw13.ShardMoves'. -/
def shardMovesUptoCard : Claim7 := { stood := { row := shardMovesUptoRow, standIns := [], harness := (true, "fc6d465922fcce3810cf955aae2e49bec13ecdabd21f17efd66cd51911bc2dec"), looks := false }, kinds := [], alts := [], laidByText := true, laidKinds := [.data, .data, .data], laidTests := true, laidLooks := .later }
def ShardMovesUptoCardSaid : Prop := Claim7.holds Tryz.pinned (.plain (OpenSpec.upto shardMovesSpec)) shardMovesUptoCard

/-- THE SECOND FORM's CARD OF 'cantonlaw13.ShardRuns'. -/
def shardRunsUptoCard : Claim7 := { stood := { row := shardRunsUptoRow, standIns := [], harness := (true, "fc6d465922fcce3810cf955aae2e49bec13ecdabd21f17efd66cd51911bc2dec"), looks := false }, kinds := [], alts := [], laidByText := true, laidKinds := [.data, .data, .data], laidTests := true, laidLooks := .later }
def ShardRunsUptoCardSaid : Prop := Claim7.holds Tryz.pinned (.plain (OpenSpec.upto shardRunsSpec)) shardRunsUptoCard

/-- THE SECOND FORM's CARD OF 'cantonlaw13.ShardDecides'. -/
def shardDecidesUptoCard : Claim7 := { stood := { row := shardDecidesUptoRow, standIns := [], harness := (true, "fc6d465922fcce3810cf955aae2e49bec13ecdabd21f17efd66cd51911bc2dec"), looks := false }, kinds := [], alts := [], laidByText := true, laidKinds := [.data, .data, .data], laidTests := true, laidLooks := .later }
def ShardDecidesUptoCardSaid : Prop := Claim7.holds Tryz.pinned (.plain (OpenSpec.upto shardDecidesSpec)) shardDecidesUptoCard

/-- THE SECOND FORM's CARD OF 'cantonlaw13.ShardLate'. -/
def shardLateUptoCard : Claim7 := { stood := { row := shardLateUptoRow, standIns := [], harness := (true, "fc6d465922fcce3810cf955aae2e49bec13ecdabd21f17efd66cd51911bc2dec"), looks := false }, kinds := [], alts := [], laidByText := true, laidKinds := [.data, .data, .data], laidTests := true, laidLooks := .later }
def ShardLateUptoCardSaid : Prop := Claim7.holds Tryz.pinned (.plain (OpenSpec.upto shardLateSpec)) shardLateUptoCard

/-- THE SECOND FORM's CARD OF 'cantonlaw13.ShardWatches'. -/
def shardWatchesUptoCard : Claim7 := { stood := { row := shardWatchesUptoRow, standIns := [], harness := (true, "fc6d465922fcce3810cf955aae2e49bec13ecdabd21f17efd66cd51911bc2dec"), looks := false }, kinds := [], alts := [], laidByText := true, laidKinds := [.data, .data, .data], laidTests := true, laidLooks := .later }
def ShardWatchesUptoCardSaid : Prop := Claim7.holds Tryz.pinned (.plain (OpenSpec.upto shardWatchesSpec)) shardWatchesUptoCard
end Rows
end Go.Proofs.YtgafcelloiagmaaGreatDoor
