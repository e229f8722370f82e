/-
  DERIVED. GIVEN WITH THE SEED: THE CARDS: each row of YtcfhajnboamnnaaDoorRows.lean that lists a variable, with what it lists TIED to the program's text (the seventh form; the later family's looks); each row that meets fmt, with fmt's text TOLD by the authors' own Lean function (tested against real Go, not proved from fmt's source: count such statements apart). THE CARD IS WHAT COUNTS. Prove the row's statement (the work); the ties are given (YtcfhajnboamnnaaDoorTie.lean); close each card by the builder's one call (the guide's Derived/Test/ToyasCard.lean, 'card_holds'). Laid BY PROGRAM, IN A SANDBOX (cutbox-door.mjs). By AI agents, Wed Nov 11 2026. No macro, syntax, notation, axiom, sorry.
-/
import Derived.Test.YtcfhajnboamnnaaDoorRows
import GoSem.ClaimSeven
namespace Go.Proofs.YtcfhajnboamnnaaDoor
namespace Rows

/-- THE TIED CARD OF 'anticlinelaw3.FloatBetween'. -/
def floatBetweenCard : Claim7 := { stood := { row := floatBetweenRow, standIns := [], harness := (true, "408d1b107de1f4891eadfb79e7a22f89751b05915f317a1752685373ad84d282"), looks := false }, kinds := [], alts := [], laidByText := true, laidKinds := [.data], laidTests := true, laidLooks := .later }
def FloatBetweenCardSaid : Prop := Claim7.holds Tryd.pinned (.plain (OpenSpec.ofChange floatBetweenSpec)) floatBetweenCard

/-- THE TIED CARD OF 'anticlinelaw3.FloatNexts'. -/
def floatNextsCard : Claim7 := { stood := { row := floatNextsRow, standIns := [], harness := (true, "408d1b107de1f4891eadfb79e7a22f89751b05915f317a1752685373ad84d282"), looks := false }, kinds := [], alts := [], laidByText := true, laidKinds := [.data], laidTests := true, laidLooks := .later }
def FloatNextsCardSaid : Prop := Claim7.holds Tryd.pinned (.plain (OpenSpec.ofChange floatNextsSpec)) floatNextsCard

/-- THE TIED CARD OF 'anticlinelaw3.FloatOps'. -/
def floatOpsCard : Claim7 := { stood := { row := floatOpsRow, standIns := [], harness := (true, "408d1b107de1f4891eadfb79e7a22f89751b05915f317a1752685373ad84d282"), looks := false }, kinds := [], alts := [], laidByText := true, laidKinds := [.data], laidTests := true, laidLooks := .later }
def FloatOpsCardSaid : Prop := Claim7.holds Tryd.pinned (.plain (OpenSpec.ofChange floatOpsSpec)) floatOpsCard

/-- THE TIED CARD OF 'anticlinelaw3.FloatFma'. -/
def floatFmaCard : Claim7 := { stood := { row := floatFmaRow, standIns := [], harness := (true, "408d1b107de1f4891eadfb79e7a22f89751b05915f317a1752685373ad84d282"), looks := false }, kinds := [], alts := [], laidByText := true, laidKinds := [.data], laidTests := true, laidLooks := .later }
def FloatFmaCardSaid : Prop := Claim7.holds Tryd.pinned (.plain (OpenSpec.ofChange floatFmaSpec)) floatFmaCard

/-- THE TIED CARD OF 'anticlinelaw3.FloatRoots'. -/
def floatRootsCard : Claim7 := { stood := { row := floatRootsRow, standIns := [], harness := (true, "408d1b107de1f4891eadfb79e7a22f89751b05915f317a1752685373ad84d282"), looks := false }, kinds := [], alts := [], laidByText := true, laidKinds := [.data], laidTests := true, laidLooks := .later }
def FloatRootsCardSaid : Prop := Claim7.holds Tryd.pinned (.plain (OpenSpec.ofChange floatRootsSpec)) floatRootsCard

/-- THE SECOND FORM's CARD OF 'anticlinelaw3.FloatBetween'. -/
def floatBetweenUptoCard : Claim7 := { stood := { row := floatBetweenUptoRow, standIns := [], harness := (true, "408d1b107de1f4891eadfb79e7a22f89751b05915f317a1752685373ad84d282"), looks := false }, kinds := [], alts := [], laidByText := true, laidKinds := [.data], laidTests := true, laidLooks := .later }
def FloatBetweenUptoCardSaid : Prop := Claim7.holds Tryd.pinned (.plain (OpenSpec.upto floatBetweenSpec)) floatBetweenUptoCard

/-- THE SECOND FORM's CARD OF 'anticlinelaw3.FloatNexts'. -/
def floatNextsUptoCard : Claim7 := { stood := { row := floatNextsUptoRow, standIns := [], harness := (true, "408d1b107de1f4891eadfb79e7a22f89751b05915f317a1752685373ad84d282"), looks := false }, kinds := [], alts := [], laidByText := true, laidKinds := [.data], laidTests := true, laidLooks := .later }
def FloatNextsUptoCardSaid : Prop := Claim7.holds Tryd.pinned (.plain (OpenSpec.upto floatNextsSpec)) floatNextsUptoCard

/-- THE SECOND FORM's CARD OF 'anticlinelaw3.FloatOps'. -/
def floatOpsUptoCard : Claim7 := { stood := { row := floatOpsUptoRow, standIns := [], harness := (true, "408d1b107de1f4891eadfb79e7a22f89751b05915f317a1752685373ad84d282"), looks := false }, kinds := [], alts := [], laidByText := true, laidKinds := [.data], laidTests := true, laidLooks := .later }
def FloatOpsUptoCardSaid : Prop := Claim7.holds Tryd.pinned (.plain (OpenSpec.upto floatOpsSpec)) floatOpsUptoCard

/-- THE SECOND FORM's CARD OF 'anticlinelaw3.FloatFma'. -/
def floatFmaUptoCard : Claim7 := { stood := { row := floatFmaUptoRow, standIns := [], harness := (true, "408d1b107de1f4891eadfb79e7a22f89751b05915f317a1752685373ad84d282"), looks := false }, kinds := [], alts := [], laidByText := true, laidKinds := [.data], laidTests := true, laidLooks := .later }
def FloatFmaUptoCardSaid : Prop := Claim7.holds Tryd.pinned (.plain (OpenSpec.upto floatFmaSpec)) floatFmaUptoCard

/-- THE SECOND FORM's CARD OF 'anticlinelaw3.FloatRoots'. -/
def floatRootsUptoCard : Claim7 := { stood := { row := floatRootsUptoRow, standIns := [], harness := (true, "408d1b107de1f4891eadfb79e7a22f89751b05915f317a1752685373ad84d282"), looks := false }, kinds := [], alts := [], laidByText := true, laidKinds := [.data], laidTests := true, laidLooks := .later }
def FloatRootsUptoCardSaid : Prop := Claim7.holds Tryd.pinned (.plain (OpenSpec.upto floatRootsSpec)) floatRootsUptoCard
end Rows
end Go.Proofs.YtcfhajnboamnnaaDoor
