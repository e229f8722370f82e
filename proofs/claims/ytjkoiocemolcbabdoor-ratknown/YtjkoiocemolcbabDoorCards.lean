/-
  DERIVED. GIVEN WITH THE SEED: THE CARDS: each row of YtjkoiocemolcbabDoorRows.lean that lists a variable, with what it lists TIED to the program's text (the seventh form; the later family's looks); each row that meets fmt, with fmt's text TOLD by the authors' own Lean function (tested against real Go, not proved from fmt's source: count such statements apart). THE CARD IS WHAT COUNTS. Prove the row's statement (the work); the ties are given (YtjkoiocemolcbabDoorTie.lean); close each card by the builder's one call (the guide's Derived/Test/ToyasCard.lean, 'card_holds'). Laid BY PROGRAM, IN A SANDBOX (cutbox-door.mjs). By AI agents, Wed Nov 11 2026. No macro, syntax, notation, axiom, sorry.
-/
import Derived.Test.YtjkoiocemolcbabDoorRows
import GoSem.ClaimSeven
namespace Go.Proofs.YtjkoiocemolcbabDoor
namespace Rows

/-- THE TIED CARD OF 'anticlinelaw2.RatKnown'. -/
def ratKnownCard : Claim7 := { stood := { row := ratKnownRow, standIns := [], harness := (true, "75b1e50ee96aed2c0c7e134def3ecca07c61e79cf8ca0bbbc6096e18fb5977c5"), looks := false }, kinds := [], alts := [], laidByText := true, laidKinds := [.data, .pinned], laidTests := true, laidLooks := .later }
def RatKnownCardSaid : Prop := Claim7.holds Tryd.pinned (.plain (OpenSpec.ofChange ratKnownSpec)) ratKnownCard

/-- THE TIED CARD OF 'anticlinelaw2.RatTerms'. -/
def ratTermsCard : Claim7 := { stood := { row := ratTermsRow, standIns := [], harness := (true, "75b1e50ee96aed2c0c7e134def3ecca07c61e79cf8ca0bbbc6096e18fb5977c5"), looks := false }, kinds := [], alts := [], laidByText := true, laidKinds := [.data, .pinned], laidTests := true, laidLooks := .later }
def RatTermsCardSaid : Prop := Claim7.holds Tryd.pinned (.plain (OpenSpec.ofChange ratTermsSpec)) ratTermsCard

/-- THE TIED CARD OF 'anticlinelaw2.RatEnds'. -/
def ratEndsCard : Claim7 := { stood := { row := ratEndsRow, standIns := [], harness := (true, "75b1e50ee96aed2c0c7e134def3ecca07c61e79cf8ca0bbbc6096e18fb5977c5"), looks := false }, kinds := [], alts := [], laidByText := true, laidKinds := [.data, .pinned], laidTests := true, laidLooks := .later }
def RatEndsCardSaid : Prop := Claim7.holds Tryd.pinned (.plain (OpenSpec.ofChange ratEndsSpec)) ratEndsCard

/-- THE TIED CARD OF 'anticlinelaw2.RatHalves'. -/
def ratHalvesCard : Claim7 := { stood := { row := ratHalvesRow, standIns := [], harness := (true, "75b1e50ee96aed2c0c7e134def3ecca07c61e79cf8ca0bbbc6096e18fb5977c5"), looks := false }, kinds := [], alts := [], laidByText := true, laidKinds := [.data, .pinned], laidTests := true, laidLooks := .later }
def RatHalvesCardSaid : Prop := Claim7.holds Tryd.pinned (.plain (OpenSpec.ofChange ratHalvesSpec)) ratHalvesCard

/-- THE SECOND FORM's CARD OF 'anticlinelaw2.RatKnown'. -/
def ratKnownUptoCard : Claim7 := { stood := { row := ratKnownUptoRow, standIns := [], harness := (true, "75b1e50ee96aed2c0c7e134def3ecca07c61e79cf8ca0bbbc6096e18fb5977c5"), looks := false }, kinds := [], alts := [], laidByText := true, laidKinds := [.data, .pinned], laidTests := true, laidLooks := .later }
def RatKnownUptoCardSaid : Prop := Claim7.holds Tryd.pinned (.plain (OpenSpec.upto ratKnownSpec)) ratKnownUptoCard

/-- THE SECOND FORM's CARD OF 'anticlinelaw2.RatTerms'. -/
def ratTermsUptoCard : Claim7 := { stood := { row := ratTermsUptoRow, standIns := [], harness := (true, "75b1e50ee96aed2c0c7e134def3ecca07c61e79cf8ca0bbbc6096e18fb5977c5"), looks := false }, kinds := [], alts := [], laidByText := true, laidKinds := [.data, .pinned], laidTests := true, laidLooks := .later }
def RatTermsUptoCardSaid : Prop := Claim7.holds Tryd.pinned (.plain (OpenSpec.upto ratTermsSpec)) ratTermsUptoCard

/-- THE SECOND FORM's CARD OF 'anticlinelaw2.RatEnds'. -/
def ratEndsUptoCard : Claim7 := { stood := { row := ratEndsUptoRow, standIns := [], harness := (true, "75b1e50ee96aed2c0c7e134def3ecca07c61e79cf8ca0bbbc6096e18fb5977c5"), looks := false }, kinds := [], alts := [], laidByText := true, laidKinds := [.data, .pinned], laidTests := true, laidLooks := .later }
def RatEndsUptoCardSaid : Prop := Claim7.holds Tryd.pinned (.plain (OpenSpec.upto ratEndsSpec)) ratEndsUptoCard

/-- THE SECOND FORM's CARD OF 'anticlinelaw2.RatHalves'. -/
def ratHalvesUptoCard : Claim7 := { stood := { row := ratHalvesUptoRow, standIns := [], harness := (true, "75b1e50ee96aed2c0c7e134def3ecca07c61e79cf8ca0bbbc6096e18fb5977c5"), looks := false }, kinds := [], alts := [], laidByText := true, laidKinds := [.data, .pinned], laidTests := true, laidLooks := .later }
def RatHalvesUptoCardSaid : Prop := Claim7.holds Tryd.pinned (.plain (OpenSpec.upto ratHalvesSpec)) ratHalvesUptoCard
end Rows
end Go.Proofs.YtjkoiocemolcbabDoor
