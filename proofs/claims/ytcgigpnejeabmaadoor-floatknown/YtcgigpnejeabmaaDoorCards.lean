/-
  DERIVED. GIVEN WITH THE SEED: THE CARDS: each row of YtcgigpnejeabmaaDoorRows.lean that lists a variable, with what it lists TIED to the program's text (the seventh form; the later family's looks); each row that meets fmt, with fmt's text TOLD by the authors' own Lean function (tested against real Go, not proved from fmt's source: count such statements apart). THE CARD IS WHAT COUNTS. Prove the row's statement (the work); the ties are given (YtcgigpnejeabmaaDoorTie.lean); close each card by the builder's one call (the guide's Derived/Test/ToyasCard.lean, 'card_holds'). Laid BY PROGRAM, IN A SANDBOX (cutbox-door.mjs). By AI agents, Wed Nov 11 2026. No macro, syntax, notation, axiom, sorry.
-/
import Derived.Test.YtcgigpnejeabmaaDoorRows
import GoSem.ClaimSeven
namespace Go.Proofs.YtcgigpnejeabmaaDoor
namespace Rows

/-- THE TIED CARD OF 'anticlinelaw3.FloatKnown'. -/
def floatKnownCard : Claim7 := { stood := { row := floatKnownRow, standIns := [], harness := (true, "dacc9d4fa2e6ec5e53cbc667f993c003fb58a98d8014c01e265d2ce36b44dd4d"), looks := false }, kinds := [], alts := [], laidByText := true, laidKinds := [.data], laidTests := true, laidLooks := .later }
def FloatKnownCardSaid : Prop := Claim7.holds Tryd.pinned (.plain (OpenSpec.ofChange floatKnownSpec)) floatKnownCard

/-- THE SECOND FORM's CARD OF 'anticlinelaw3.FloatKnown'. -/
def floatKnownUptoCard : Claim7 := { stood := { row := floatKnownUptoRow, standIns := [], harness := (true, "dacc9d4fa2e6ec5e53cbc667f993c003fb58a98d8014c01e265d2ce36b44dd4d"), looks := false }, kinds := [], alts := [], laidByText := true, laidKinds := [.data], laidTests := true, laidLooks := .later }
def FloatKnownUptoCardSaid : Prop := Claim7.holds Tryd.pinned (.plain (OpenSpec.upto floatKnownSpec)) floatKnownUptoCard
end Rows
end Go.Proofs.YtcgigpnejeabmaaDoor
