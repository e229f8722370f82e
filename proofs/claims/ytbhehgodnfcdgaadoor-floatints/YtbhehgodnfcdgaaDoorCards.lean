/-
  DERIVED. GIVEN WITH THE SEED: THE CARDS: each row of YtbhehgodnfcdgaaDoorRows.lean that lists a variable, with what it lists TIED to the program's text (the seventh form; the later family's looks); each row that meets fmt, with fmt's text TOLD by the authors' own Lean function (tested against real Go, not proved from fmt's source: count such statements apart). THE CARD IS WHAT COUNTS. Prove the row's statement (the work); the ties are given (YtbhehgodnfcdgaaDoorTie.lean); close each card by the builder's one call (the guide's Derived/Test/ToyasCard.lean, 'card_holds'). Laid BY PROGRAM, IN A SANDBOX (cutbox-door.mjs). By AI agents, Wed Nov 11 2026. No macro, syntax, notation, axiom, sorry.
-/
import Derived.Test.YtbhehgodnfcdgaaDoorRows
import GoSem.ClaimSeven
namespace Go.Proofs.YtbhehgodnfcdgaaDoor
namespace Rows

/-- THE TIED CARD OF 'anticlinelaw3.FloatTurned'. -/
def floatTurnedCard : Claim7 := { stood := { row := floatTurnedRow, standIns := [], harness := (true, "2e081a5326e695db43321cf00ad1b06aa2d774905e85b308d1dab471f80cb4a0"), looks := false }, kinds := [], alts := [], laidByText := true, laidKinds := [.data], laidTests := true, laidLooks := .later }
def FloatTurnedCardSaid : Prop := Claim7.holds Tryd.pinned (.plain (OpenSpec.ofChange floatTurnedSpec)) floatTurnedCard

/-- THE TIED CARD OF 'anticlinelaw3.FloatModes'. -/
def floatModesCard : Claim7 := { stood := { row := floatModesRow, standIns := [], harness := (true, "2e081a5326e695db43321cf00ad1b06aa2d774905e85b308d1dab471f80cb4a0"), looks := false }, kinds := [], alts := [], laidByText := true, laidKinds := [.data], laidTests := true, laidLooks := .later }
def FloatModesCardSaid : Prop := Claim7.holds Tryd.pinned (.plain (OpenSpec.ofChange floatModesSpec)) floatModesCard

/-- THE TIED CARD OF 'anticlinelaw3.FloatScales'. -/
def floatScalesCard : Claim7 := { stood := { row := floatScalesRow, standIns := [], harness := (true, "2e081a5326e695db43321cf00ad1b06aa2d774905e85b308d1dab471f80cb4a0"), looks := false }, kinds := [], alts := [], laidByText := true, laidKinds := [.data], laidTests := true, laidLooks := .later }
def FloatScalesCardSaid : Prop := Claim7.holds Tryd.pinned (.plain (OpenSpec.ofChange floatScalesSpec)) floatScalesCard

/-- THE TIED CARD OF 'anticlinelaw3.FloatKnown'. -/
def floatKnownCard : Claim7 := { stood := { row := floatKnownRow, standIns := [], harness := (true, "2e081a5326e695db43321cf00ad1b06aa2d774905e85b308d1dab471f80cb4a0"), looks := false }, kinds := [], alts := [], laidByText := true, laidKinds := [.data], laidTests := true, laidLooks := .later }
def FloatKnownCardSaid : Prop := Claim7.holds Tryd.pinned (.plain (OpenSpec.ofChange floatKnownSpec)) floatKnownCard

/-- THE TIED CARD OF 'anticlinelaw3.FloatBack'. -/
def floatBackCard : Claim7 := { stood := { row := floatBackRow, standIns := [], harness := (true, "2e081a5326e695db43321cf00ad1b06aa2d774905e85b308d1dab471f80cb4a0"), looks := false }, kinds := [], alts := [], laidByText := true, laidKinds := [.data], laidTests := true, laidLooks := .later }
def FloatBackCardSaid : Prop := Claim7.holds Tryd.pinned (.plain (OpenSpec.ofChange floatBackSpec)) floatBackCard

/-- THE TIED CARD OF 'anticlinelaw3.FloatInts'. -/
def floatIntsCard : Claim7 := { stood := { row := floatIntsRow, standIns := [], harness := (true, "2e081a5326e695db43321cf00ad1b06aa2d774905e85b308d1dab471f80cb4a0"), looks := false }, kinds := [], alts := [], laidByText := true, laidKinds := [.data], laidTests := true, laidLooks := .later }
def FloatIntsCardSaid : Prop := Claim7.holds Tryd.pinned (.plain (OpenSpec.ofChange floatIntsSpec)) floatIntsCard

/-- THE SECOND FORM's CARD OF 'anticlinelaw3.FloatTurned'. -/
def floatTurnedUptoCard : Claim7 := { stood := { row := floatTurnedUptoRow, standIns := [], harness := (true, "2e081a5326e695db43321cf00ad1b06aa2d774905e85b308d1dab471f80cb4a0"), looks := false }, kinds := [], alts := [], laidByText := true, laidKinds := [.data], laidTests := true, laidLooks := .later }
def FloatTurnedUptoCardSaid : Prop := Claim7.holds Tryd.pinned (.plain (OpenSpec.upto floatTurnedSpec)) floatTurnedUptoCard

/-- THE SECOND FORM's CARD OF 'anticlinelaw3.FloatModes'. -/
def floatModesUptoCard : Claim7 := { stood := { row := floatModesUptoRow, standIns := [], harness := (true, "2e081a5326e695db43321cf00ad1b06aa2d774905e85b308d1dab471f80cb4a0"), looks := false }, kinds := [], alts := [], laidByText := true, laidKinds := [.data], laidTests := true, laidLooks := .later }
def FloatModesUptoCardSaid : Prop := Claim7.holds Tryd.pinned (.plain (OpenSpec.upto floatModesSpec)) floatModesUptoCard

/-- THE SECOND FORM's CARD OF 'anticlinelaw3.FloatScales'. -/
def floatScalesUptoCard : Claim7 := { stood := { row := floatScalesUptoRow, standIns := [], harness := (true, "2e081a5326e695db43321cf00ad1b06aa2d774905e85b308d1dab471f80cb4a0"), looks := false }, kinds := [], alts := [], laidByText := true, laidKinds := [.data], laidTests := true, laidLooks := .later }
def FloatScalesUptoCardSaid : Prop := Claim7.holds Tryd.pinned (.plain (OpenSpec.upto floatScalesSpec)) floatScalesUptoCard

/-- THE SECOND FORM's CARD OF 'anticlinelaw3.FloatKnown'. -/
def floatKnownUptoCard : Claim7 := { stood := { row := floatKnownUptoRow, standIns := [], harness := (true, "2e081a5326e695db43321cf00ad1b06aa2d774905e85b308d1dab471f80cb4a0"), looks := false }, kinds := [], alts := [], laidByText := true, laidKinds := [.data], laidTests := true, laidLooks := .later }
def FloatKnownUptoCardSaid : Prop := Claim7.holds Tryd.pinned (.plain (OpenSpec.upto floatKnownSpec)) floatKnownUptoCard

/-- THE SECOND FORM's CARD OF 'anticlinelaw3.FloatBack'. -/
def floatBackUptoCard : Claim7 := { stood := { row := floatBackUptoRow, standIns := [], harness := (true, "2e081a5326e695db43321cf00ad1b06aa2d774905e85b308d1dab471f80cb4a0"), looks := false }, kinds := [], alts := [], laidByText := true, laidKinds := [.data], laidTests := true, laidLooks := .later }
def FloatBackUptoCardSaid : Prop := Claim7.holds Tryd.pinned (.plain (OpenSpec.upto floatBackSpec)) floatBackUptoCard

/-- THE SECOND FORM's CARD OF 'anticlinelaw3.FloatInts'. -/
def floatIntsUptoCard : Claim7 := { stood := { row := floatIntsUptoRow, standIns := [], harness := (true, "2e081a5326e695db43321cf00ad1b06aa2d774905e85b308d1dab471f80cb4a0"), looks := false }, kinds := [], alts := [], laidByText := true, laidKinds := [.data], laidTests := true, laidLooks := .later }
def FloatIntsUptoCardSaid : Prop := Claim7.holds Tryd.pinned (.plain (OpenSpec.upto floatIntsSpec)) floatIntsUptoCard
end Rows
end Go.Proofs.YtbhehgodnfcdgaaDoor
