/-
  DERIVED. GIVEN WITH THE SEED: THE CARDS: each row of YtmidccmehpjjlabDoorRows.lean that lists a variable, with what it lists TIED to the program's text (the seventh form; the later family's looks); each row that meets fmt, with fmt's text TOLD by the authors' own Lean function (tested against real Go, not proved from fmt's source: count such statements apart). THE CARD IS WHAT COUNTS. Prove the row's statement (the work); the ties are given (YtmidccmehpjjlabDoorTie.lean); close each card by the builder's one call (the guide's Derived/Test/ToyasCard.lean, 'card_holds'). Laid BY PROGRAM, IN A SANDBOX (cutbox-door.mjs). By AI agents, Wed Nov 11 2026. No macro, syntax, notation, axiom, sorry.
-/
import Derived.Test.YtmidccmehpjjlabDoorRows
import GoSem.ClaimSeven
namespace Go.Proofs.YtmidccmehpjjlabDoor
namespace Rows

/-- THE TIED CARD OF 'anticlinelaw3.FloatKnown'. -/
def floatKnownCard : Claim7 := { stood := { row := floatKnownRow, standIns := [], harness := (true, "edf746dd49e5e6b07e139d6e35e0a1a08d1062211e4fd0011bd9f6b9e5867a0f"), looks := false }, kinds := [], alts := [], laidByText := true, laidKinds := [.data], laidTests := true, laidLooks := .later }
def FloatKnownCardSaid : Prop := Claim7.holds Tryd.pinned (.plain (OpenSpec.ofChange floatKnownSpec)) floatKnownCard

/-- THE TIED CARD OF 'anticlinelaw3.FloatSame'. -/
def floatSameCard : Claim7 := { stood := { row := floatSameRow, standIns := [], harness := (true, "edf746dd49e5e6b07e139d6e35e0a1a08d1062211e4fd0011bd9f6b9e5867a0f"), looks := false }, kinds := [], alts := [], laidByText := true, laidKinds := [.data], laidTests := true, laidLooks := .later }
def FloatSameCardSaid : Prop := Claim7.holds Tryd.pinned (.plain (OpenSpec.ofChange floatSameSpec)) floatSameCard

/-- THE TIED CARD OF 'anticlinelaw3.FloatTurned'. -/
def floatTurnedCard : Claim7 := { stood := { row := floatTurnedRow, standIns := [], harness := (true, "edf746dd49e5e6b07e139d6e35e0a1a08d1062211e4fd0011bd9f6b9e5867a0f"), looks := false }, kinds := [], alts := [], laidByText := true, laidKinds := [.data], laidTests := true, laidLooks := .later }
def FloatTurnedCardSaid : Prop := Claim7.holds Tryd.pinned (.plain (OpenSpec.ofChange floatTurnedSpec)) floatTurnedCard

/-- THE TIED CARD OF 'anticlinelaw3.FloatModes'. -/
def floatModesCard : Claim7 := { stood := { row := floatModesRow, standIns := [], harness := (true, "edf746dd49e5e6b07e139d6e35e0a1a08d1062211e4fd0011bd9f6b9e5867a0f"), looks := false }, kinds := [], alts := [], laidByText := true, laidKinds := [.data], laidTests := true, laidLooks := .later }
def FloatModesCardSaid : Prop := Claim7.holds Tryd.pinned (.plain (OpenSpec.ofChange floatModesSpec)) floatModesCard

/-- THE TIED CARD OF 'anticlinelaw3.FloatRoots'. -/
def floatRootsCard : Claim7 := { stood := { row := floatRootsRow, standIns := [], harness := (true, "edf746dd49e5e6b07e139d6e35e0a1a08d1062211e4fd0011bd9f6b9e5867a0f"), looks := false }, kinds := [], alts := [], laidByText := true, laidKinds := [.data], laidTests := true, laidLooks := .later }
def FloatRootsCardSaid : Prop := Claim7.holds Tryd.pinned (.plain (OpenSpec.ofChange floatRootsSpec)) floatRootsCard

/-- THE TIED CARD OF 'anticlinelaw3.FloatNexts'. -/
def floatNextsCard : Claim7 := { stood := { row := floatNextsRow, standIns := [], harness := (true, "edf746dd49e5e6b07e139d6e35e0a1a08d1062211e4fd0011bd9f6b9e5867a0f"), looks := false }, kinds := [], alts := [], laidByText := true, laidKinds := [.data], laidTests := true, laidLooks := .later }
def FloatNextsCardSaid : Prop := Claim7.holds Tryd.pinned (.plain (OpenSpec.ofChange floatNextsSpec)) floatNextsCard

/-- THE SECOND FORM's CARD OF 'anticlinelaw3.FloatKnown'. -/
def floatKnownUptoCard : Claim7 := { stood := { row := floatKnownUptoRow, standIns := [], harness := (true, "edf746dd49e5e6b07e139d6e35e0a1a08d1062211e4fd0011bd9f6b9e5867a0f"), looks := false }, kinds := [], alts := [], laidByText := true, laidKinds := [.data], laidTests := true, laidLooks := .later }
def FloatKnownUptoCardSaid : Prop := Claim7.holds Tryd.pinned (.plain (OpenSpec.upto floatKnownSpec)) floatKnownUptoCard

/-- THE SECOND FORM's CARD OF 'anticlinelaw3.FloatSame'. -/
def floatSameUptoCard : Claim7 := { stood := { row := floatSameUptoRow, standIns := [], harness := (true, "edf746dd49e5e6b07e139d6e35e0a1a08d1062211e4fd0011bd9f6b9e5867a0f"), looks := false }, kinds := [], alts := [], laidByText := true, laidKinds := [.data], laidTests := true, laidLooks := .later }
def FloatSameUptoCardSaid : Prop := Claim7.holds Tryd.pinned (.plain (OpenSpec.upto floatSameSpec)) floatSameUptoCard

/-- THE SECOND FORM's CARD OF 'anticlinelaw3.FloatTurned'. -/
def floatTurnedUptoCard : Claim7 := { stood := { row := floatTurnedUptoRow, standIns := [], harness := (true, "edf746dd49e5e6b07e139d6e35e0a1a08d1062211e4fd0011bd9f6b9e5867a0f"), looks := false }, kinds := [], alts := [], laidByText := true, laidKinds := [.data], laidTests := true, laidLooks := .later }
def FloatTurnedUptoCardSaid : Prop := Claim7.holds Tryd.pinned (.plain (OpenSpec.upto floatTurnedSpec)) floatTurnedUptoCard

/-- THE SECOND FORM's CARD OF 'anticlinelaw3.FloatModes'. -/
def floatModesUptoCard : Claim7 := { stood := { row := floatModesUptoRow, standIns := [], harness := (true, "edf746dd49e5e6b07e139d6e35e0a1a08d1062211e4fd0011bd9f6b9e5867a0f"), looks := false }, kinds := [], alts := [], laidByText := true, laidKinds := [.data], laidTests := true, laidLooks := .later }
def FloatModesUptoCardSaid : Prop := Claim7.holds Tryd.pinned (.plain (OpenSpec.upto floatModesSpec)) floatModesUptoCard

/-- THE SECOND FORM's CARD OF 'anticlinelaw3.FloatRoots'. -/
def floatRootsUptoCard : Claim7 := { stood := { row := floatRootsUptoRow, standIns := [], harness := (true, "edf746dd49e5e6b07e139d6e35e0a1a08d1062211e4fd0011bd9f6b9e5867a0f"), looks := false }, kinds := [], alts := [], laidByText := true, laidKinds := [.data], laidTests := true, laidLooks := .later }
def FloatRootsUptoCardSaid : Prop := Claim7.holds Tryd.pinned (.plain (OpenSpec.upto floatRootsSpec)) floatRootsUptoCard

/-- THE SECOND FORM's CARD OF 'anticlinelaw3.FloatNexts'. -/
def floatNextsUptoCard : Claim7 := { stood := { row := floatNextsUptoRow, standIns := [], harness := (true, "edf746dd49e5e6b07e139d6e35e0a1a08d1062211e4fd0011bd9f6b9e5867a0f"), looks := false }, kinds := [], alts := [], laidByText := true, laidKinds := [.data], laidTests := true, laidLooks := .later }
def FloatNextsUptoCardSaid : Prop := Claim7.holds Tryd.pinned (.plain (OpenSpec.upto floatNextsSpec)) floatNextsUptoCard
end Rows
end Go.Proofs.YtmidccmehpjjlabDoor
