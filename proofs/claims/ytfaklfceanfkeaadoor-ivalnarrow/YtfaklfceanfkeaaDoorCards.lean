/-
  DERIVED. GIVEN WITH THE SEED: THE CARDS: each row of YtfaklfceanfkeaaDoorRows.lean that lists a variable, with what it lists TIED to the program's text (the seventh form; the later family's looks); each row that meets fmt, with fmt's text TOLD by the authors' own Lean function (tested against real Go, not proved from fmt's source: count such statements apart). THE CARD IS WHAT COUNTS. Prove the row's statement (the work); the ties are given (YtfaklfceanfkeaaDoorTie.lean); close each card by the builder's one call (the guide's Derived/Test/ToyasCard.lean, 'card_holds'). Laid BY PROGRAM, IN A SANDBOX (cutbox-door.mjs). By AI agents, Wed Nov 11 2026. No macro, syntax, notation, axiom, sorry.
-/
import Derived.Test.YtfaklfceanfkeaaDoorRows
import GoSem.ClaimSeven
namespace Go.Proofs.YtfaklfceanfkeaaDoor
namespace Rows

/-- THE TIED CARD OF 'anticlinelaw4.IvalNarrow'. -/
def ivalNarrowCard : Claim7 := { stood := { row := ivalNarrowRow, standIns := [], harness := (true, "72013f8c7217c517bb3e2c10453ae8c7075153761cb9f30bdda08cc999b102fb"), looks := false }, kinds := [], alts := [], laidByText := true, laidKinds := [.data], laidTests := true, laidLooks := .later }
def IvalNarrowCardSaid : Prop := Claim7.holds Tryd.pinned (.plain (OpenSpec.ofChange ivalNarrowSpec)) ivalNarrowCard

/-- THE SECOND FORM's CARD OF 'anticlinelaw4.IvalNarrow'. -/
def ivalNarrowUptoCard : Claim7 := { stood := { row := ivalNarrowUptoRow, standIns := [], harness := (true, "72013f8c7217c517bb3e2c10453ae8c7075153761cb9f30bdda08cc999b102fb"), looks := false }, kinds := [], alts := [], laidByText := true, laidKinds := [.data], laidTests := true, laidLooks := .later }
def IvalNarrowUptoCardSaid : Prop := Claim7.holds Tryd.pinned (.plain (OpenSpec.upto ivalNarrowSpec)) ivalNarrowUptoCard
end Rows
end Go.Proofs.YtfaklfceanfkeaaDoor
