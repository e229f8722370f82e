/-
  DERIVED. GIVEN WITH THE SEED: THE CARDS: each row of YtcfhajnboamnnaaGreatDoorRows.lean that lists a variable, with what it lists TIED to the program's text (the seventh form; the later family's looks); each row that meets fmt, with fmt's text TOLD by the authors' own Lean function (tested against real Go, not proved from fmt's source: count such statements apart). THE CARD IS WHAT COUNTS. Prove the row's statement (the work); the ties are given (YtcfhajnboamnnaaGreatDoorTie.lean); close each card by the builder's one call (the guide's Derived/Test/ToyasCard.lean, 'card_holds'). Laid BY PROGRAM, IN A SANDBOX (cutbox-door.mjs). By AI agents, Wed Nov 11 2026. No macro, syntax, notation, axiom, sorry.
-/
import Derived.Test.YtcfhajnboamnnaaGreatDoorRows
import GoSem.ClaimSeven
namespace Go.Proofs.YtcfhajnboamnnaaGreatDoor
namespace Rows

/-- THE TIED CARD OF 'anticlinelaw3.FloatOf'. -/
def floatOfCard : Claim7 := { stood := { row := floatOfRow, standIns := [], harness := (true, "d70f1c2cca31343cbb1107af8019178a5e67bc52b72636e5aa06a1ed650cb898"), looks := false }, kinds := [], alts := [], laidByText := true, laidKinds := [.data], laidTests := true, laidLooks := .later }
def FloatOfCardSaid : Prop := Claim7.holds Tryz.pinned (.plain (OpenSpec.ofChange floatOfSpec)) floatOfCard

/-- THE SECOND FORM's CARD OF 'anticlinelaw3.FloatOf'. -/
def floatOfUptoCard : Claim7 := { stood := { row := floatOfUptoRow, standIns := [], harness := (true, "d70f1c2cca31343cbb1107af8019178a5e67bc52b72636e5aa06a1ed650cb898"), looks := false }, kinds := [], alts := [], laidByText := true, laidKinds := [.data], laidTests := true, laidLooks := .later }
def FloatOfUptoCardSaid : Prop := Claim7.holds Tryz.pinned (.plain (OpenSpec.upto floatOfSpec)) floatOfUptoCard
end Rows
end Go.Proofs.YtcfhajnboamnnaaGreatDoor
