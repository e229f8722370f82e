/-
  DERIVED. GIVEN WITH THE SEED: THE CARDS: each row of YtmidccmehpjjlaaDoorRows.lean that lists a variable, with what it lists TIED to the program's text (the seventh form; the later family's looks); each row that meets fmt, with fmt's text TOLD by the authors' own Lean function (tested against real Go, not proved from fmt's source: count such statements apart). THE CARD IS WHAT COUNTS. Prove the row's statement (the work); the ties are given (YtmidccmehpjjlaaDoorTie.lean); close each card by the builder's one call (the guide's Derived/Test/ToyasCard.lean, 'card_holds'). Laid BY PROGRAM, IN A SANDBOX (cutbox-door.mjs). By AI agents, Wed Nov 11 2026. No macro, syntax, notation, axiom, sorry.
-/
import Derived.Test.YtmidccmehpjjlaaDoorRows
import GoSem.ClaimSeven
namespace Go.Proofs.YtmidccmehpjjlaaDoor
namespace Rows

/-- THE TIED CARD OF 'anticlinelaw3.FloatOps'. -/
def floatOpsCard : Claim7 := { stood := { row := floatOpsRow, standIns := [], harness := (true, "67332ee23ef41d84420f32fd4291b9487faa39f497cc48bcc86127cb4d3da0f2"), looks := false }, kinds := [], alts := [], laidByText := true, laidKinds := [.data], laidTests := true, laidLooks := .later }
def FloatOpsCardSaid : Prop := Claim7.holds Tryd.pinned (.plain (OpenSpec.ofChange floatOpsSpec)) floatOpsCard

/-- THE TIED CARD OF 'anticlinelaw3.FloatFma'. -/
def floatFmaCard : Claim7 := { stood := { row := floatFmaRow, standIns := [], harness := (true, "67332ee23ef41d84420f32fd4291b9487faa39f497cc48bcc86127cb4d3da0f2"), looks := false }, kinds := [], alts := [], laidByText := true, laidKinds := [.data], laidTests := true, laidLooks := .later }
def FloatFmaCardSaid : Prop := Claim7.holds Tryd.pinned (.plain (OpenSpec.ofChange floatFmaSpec)) floatFmaCard

/-- THE TIED CARD OF 'anticlinelaw3.FloatOrder'. -/
def floatOrderCard : Claim7 := { stood := { row := floatOrderRow, standIns := [], harness := (true, "67332ee23ef41d84420f32fd4291b9487faa39f497cc48bcc86127cb4d3da0f2"), looks := false }, kinds := [], alts := [], laidByText := true, laidKinds := [.data], laidTests := true, laidLooks := .later }
def FloatOrderCardSaid : Prop := Claim7.holds Tryd.pinned (.plain (OpenSpec.ofChange floatOrderSpec)) floatOrderCard

/-- THE TIED CARD OF 'anticlinelaw3.FloatBack'. -/
def floatBackCard : Claim7 := { stood := { row := floatBackRow, standIns := [], harness := (true, "67332ee23ef41d84420f32fd4291b9487faa39f497cc48bcc86127cb4d3da0f2"), looks := false }, kinds := [], alts := [], laidByText := true, laidKinds := [.data], laidTests := true, laidLooks := .later }
def FloatBackCardSaid : Prop := Claim7.holds Tryd.pinned (.plain (OpenSpec.ofChange floatBackSpec)) floatBackCard

/-- THE TIED CARD OF 'anticlinelaw3.FloatBetween'. -/
def floatBetweenCard : Claim7 := { stood := { row := floatBetweenRow, standIns := [], harness := (true, "67332ee23ef41d84420f32fd4291b9487faa39f497cc48bcc86127cb4d3da0f2"), looks := false }, kinds := [], alts := [], laidByText := true, laidKinds := [.data], laidTests := true, laidLooks := .later }
def FloatBetweenCardSaid : Prop := Claim7.holds Tryd.pinned (.plain (OpenSpec.ofChange floatBetweenSpec)) floatBetweenCard

/-- THE SECOND FORM's CARD OF 'anticlinelaw3.FloatOps'. -/
def floatOpsUptoCard : Claim7 := { stood := { row := floatOpsUptoRow, standIns := [], harness := (true, "67332ee23ef41d84420f32fd4291b9487faa39f497cc48bcc86127cb4d3da0f2"), looks := false }, kinds := [], alts := [], laidByText := true, laidKinds := [.data], laidTests := true, laidLooks := .later }
def FloatOpsUptoCardSaid : Prop := Claim7.holds Tryd.pinned (.plain (OpenSpec.upto floatOpsSpec)) floatOpsUptoCard

/-- THE SECOND FORM's CARD OF 'anticlinelaw3.FloatFma'. -/
def floatFmaUptoCard : Claim7 := { stood := { row := floatFmaUptoRow, standIns := [], harness := (true, "67332ee23ef41d84420f32fd4291b9487faa39f497cc48bcc86127cb4d3da0f2"), looks := false }, kinds := [], alts := [], laidByText := true, laidKinds := [.data], laidTests := true, laidLooks := .later }
def FloatFmaUptoCardSaid : Prop := Claim7.holds Tryd.pinned (.plain (OpenSpec.upto floatFmaSpec)) floatFmaUptoCard

/-- THE SECOND FORM's CARD OF 'anticlinelaw3.FloatOrder'. -/
def floatOrderUptoCard : Claim7 := { stood := { row := floatOrderUptoRow, standIns := [], harness := (true, "67332ee23ef41d84420f32fd4291b9487faa39f497cc48bcc86127cb4d3da0f2"), looks := false }, kinds := [], alts := [], laidByText := true, laidKinds := [.data], laidTests := true, laidLooks := .later }
def FloatOrderUptoCardSaid : Prop := Claim7.holds Tryd.pinned (.plain (OpenSpec.upto floatOrderSpec)) floatOrderUptoCard

/-- THE SECOND FORM's CARD OF 'anticlinelaw3.FloatBack'. -/
def floatBackUptoCard : Claim7 := { stood := { row := floatBackUptoRow, standIns := [], harness := (true, "67332ee23ef41d84420f32fd4291b9487faa39f497cc48bcc86127cb4d3da0f2"), looks := false }, kinds := [], alts := [], laidByText := true, laidKinds := [.data], laidTests := true, laidLooks := .later }
def FloatBackUptoCardSaid : Prop := Claim7.holds Tryd.pinned (.plain (OpenSpec.upto floatBackSpec)) floatBackUptoCard

/-- THE SECOND FORM's CARD OF 'anticlinelaw3.FloatBetween'. -/
def floatBetweenUptoCard : Claim7 := { stood := { row := floatBetweenUptoRow, standIns := [], harness := (true, "67332ee23ef41d84420f32fd4291b9487faa39f497cc48bcc86127cb4d3da0f2"), looks := false }, kinds := [], alts := [], laidByText := true, laidKinds := [.data], laidTests := true, laidLooks := .later }
def FloatBetweenUptoCardSaid : Prop := Claim7.holds Tryd.pinned (.plain (OpenSpec.upto floatBetweenSpec)) floatBetweenUptoCard
end Rows
end Go.Proofs.YtmidccmehpjjlaaDoor
