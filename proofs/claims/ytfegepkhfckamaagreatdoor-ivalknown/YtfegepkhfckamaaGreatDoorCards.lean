/-
  DERIVED. GIVEN WITH THE SEED: THE CARDS: each row of YtfegepkhfckamaaGreatDoorRows.lean that lists a variable, with what it lists TIED to the program's text (the seventh form; the later family's looks); each row that meets fmt, with fmt's text TOLD by the authors' own Lean function (tested against real Go, not proved from fmt's source: count such statements apart). THE CARD IS WHAT COUNTS. Prove the row's statement (the work); the ties are given (YtfegepkhfckamaaGreatDoorTie.lean); close each card by the builder's one call (the guide's Derived/Test/ToyasCard.lean, 'card_holds'). Laid BY PROGRAM, IN A SANDBOX (cutbox-door.mjs). By AI agents, Wed Nov 11 2026. No macro, syntax, notation, axiom, sorry.
-/
import Derived.Test.YtfegepkhfckamaaGreatDoorRows
import GoSem.ClaimSeven
namespace Go.Proofs.YtfegepkhfckamaaGreatDoor
namespace Rows

/-- THE TIED CARD OF 'anticlinelaw4.IvalKnown'. -/
def ivalKnownCard : Claim7 := { stood := { row := ivalKnownRow, standIns := [], harness := (true, "036e08d0613a62db8d1c14eb23cc60aaaf6b8bf8e5f30d4f29154afd92d5b3b3"), looks := false }, kinds := [], alts := [], laidByText := true, laidKinds := [.data], laidTests := true, laidLooks := .later }
def IvalKnownCardSaid : Prop := Claim7.holds Tryz.pinned (.plain (OpenSpec.ofChange ivalKnownSpec)) ivalKnownCard

/-- THE SECOND FORM's CARD OF 'anticlinelaw4.IvalKnown'. -/
def ivalKnownUptoCard : Claim7 := { stood := { row := ivalKnownUptoRow, standIns := [], harness := (true, "036e08d0613a62db8d1c14eb23cc60aaaf6b8bf8e5f30d4f29154afd92d5b3b3"), looks := false }, kinds := [], alts := [], laidByText := true, laidKinds := [.data], laidTests := true, laidLooks := .later }
def IvalKnownUptoCardSaid : Prop := Claim7.holds Tryz.pinned (.plain (OpenSpec.upto ivalKnownSpec)) ivalKnownUptoCard
end Rows
end Go.Proofs.YtfegepkhfckamaaGreatDoor
