/-
  DERIVED. GIVEN WITH THE SEED: THE CARDS: each row of YtcfhajnboamnnabGreatDoorRows.lean that lists a variable, with what it lists TIED to the program's text (the seventh form; the later family's looks); each row that meets fmt, with fmt's text TOLD by the authors' own Lean function (tested against real Go, not proved from fmt's source: count such statements apart). THE CARD IS WHAT COUNTS. Prove the row's statement (the work); the ties are given (YtcfhajnboamnnabGreatDoorTie.lean); close each card by the builder's one call (the guide's Derived/Test/ToyasCard.lean, 'card_holds'). Laid BY PROGRAM, IN A SANDBOX (cutbox-door.mjs). By AI agents, Wed Nov 11 2026. No macro, syntax, notation, axiom, sorry.
-/
import Derived.Test.YtcfhajnboamnnabGreatDoorRows
import GoSem.ClaimSeven
namespace Go.Proofs.YtcfhajnboamnnabGreatDoor
namespace Rows

/-- THE TIED CARD OF 'anticlinelaw4.IvalOps'. -/
def ivalOpsCard : Claim7 := { stood := { row := ivalOpsRow, standIns := [], harness := (true, "056d44788e0d1399874c3ed34b405952b60b785d8998edae5ff89731080da717"), looks := false }, kinds := [], alts := [], laidByText := true, laidKinds := [.data], laidTests := true, laidLooks := .later }
def IvalOpsCardSaid : Prop := Claim7.holds Tryz.pinned (.plain (OpenSpec.ofChange ivalOpsSpec)) ivalOpsCard

/-- THE TIED CARD OF 'anticlinelaw4.IvalHolds'. -/
def ivalHoldsCard : Claim7 := { stood := { row := ivalHoldsRow, standIns := [], harness := (true, "056d44788e0d1399874c3ed34b405952b60b785d8998edae5ff89731080da717"), looks := false }, kinds := [], alts := [], laidByText := true, laidKinds := [.data], laidTests := true, laidLooks := .later }
def IvalHoldsCardSaid : Prop := Claim7.holds Tryz.pinned (.plain (OpenSpec.ofChange ivalHoldsSpec)) ivalHoldsCard

/-- THE TIED CARD OF 'anticlinelaw4.IvalWider'. -/
def ivalWiderCard : Claim7 := { stood := { row := ivalWiderRow, standIns := [], harness := (true, "056d44788e0d1399874c3ed34b405952b60b785d8998edae5ff89731080da717"), looks := false }, kinds := [], alts := [], laidByText := true, laidKinds := [.data], laidTests := true, laidLooks := .later }
def IvalWiderCardSaid : Prop := Claim7.holds Tryz.pinned (.plain (OpenSpec.ofChange ivalWiderSpec)) ivalWiderCard

/-- THE TIED CARD OF 'anticlinelaw4.IvalSame'. -/
def ivalSameCard : Claim7 := { stood := { row := ivalSameRow, standIns := [], harness := (true, "056d44788e0d1399874c3ed34b405952b60b785d8998edae5ff89731080da717"), looks := false }, kinds := [], alts := [], laidByText := true, laidKinds := [.data], laidTests := true, laidLooks := .later }
def IvalSameCardSaid : Prop := Claim7.holds Tryz.pinned (.plain (OpenSpec.ofChange ivalSameSpec)) ivalSameCard

/-- THE TIED CARD OF 'anticlinelaw4.IvalDots'. -/
def ivalDotsCard : Claim7 := { stood := { row := ivalDotsRow, standIns := [], harness := (true, "056d44788e0d1399874c3ed34b405952b60b785d8998edae5ff89731080da717"), looks := false }, kinds := [], alts := [], laidByText := true, laidKinds := [.data], laidTests := true, laidLooks := .later }
def IvalDotsCardSaid : Prop := Claim7.holds Tryz.pinned (.plain (OpenSpec.ofChange ivalDotsSpec)) ivalDotsCard

/-- THE SECOND FORM's CARD OF 'anticlinelaw4.IvalOps'. -/
def ivalOpsUptoCard : Claim7 := { stood := { row := ivalOpsUptoRow, standIns := [], harness := (true, "056d44788e0d1399874c3ed34b405952b60b785d8998edae5ff89731080da717"), looks := false }, kinds := [], alts := [], laidByText := true, laidKinds := [.data], laidTests := true, laidLooks := .later }
def IvalOpsUptoCardSaid : Prop := Claim7.holds Tryz.pinned (.plain (OpenSpec.upto ivalOpsSpec)) ivalOpsUptoCard

/-- THE SECOND FORM's CARD OF 'anticlinelaw4.IvalHolds'. -/
def ivalHoldsUptoCard : Claim7 := { stood := { row := ivalHoldsUptoRow, standIns := [], harness := (true, "056d44788e0d1399874c3ed34b405952b60b785d8998edae5ff89731080da717"), looks := false }, kinds := [], alts := [], laidByText := true, laidKinds := [.data], laidTests := true, laidLooks := .later }
def IvalHoldsUptoCardSaid : Prop := Claim7.holds Tryz.pinned (.plain (OpenSpec.upto ivalHoldsSpec)) ivalHoldsUptoCard

/-- THE SECOND FORM's CARD OF 'anticlinelaw4.IvalWider'. -/
def ivalWiderUptoCard : Claim7 := { stood := { row := ivalWiderUptoRow, standIns := [], harness := (true, "056d44788e0d1399874c3ed34b405952b60b785d8998edae5ff89731080da717"), looks := false }, kinds := [], alts := [], laidByText := true, laidKinds := [.data], laidTests := true, laidLooks := .later }
def IvalWiderUptoCardSaid : Prop := Claim7.holds Tryz.pinned (.plain (OpenSpec.upto ivalWiderSpec)) ivalWiderUptoCard

/-- THE SECOND FORM's CARD OF 'anticlinelaw4.IvalSame'. -/
def ivalSameUptoCard : Claim7 := { stood := { row := ivalSameUptoRow, standIns := [], harness := (true, "056d44788e0d1399874c3ed34b405952b60b785d8998edae5ff89731080da717"), looks := false }, kinds := [], alts := [], laidByText := true, laidKinds := [.data], laidTests := true, laidLooks := .later }
def IvalSameUptoCardSaid : Prop := Claim7.holds Tryz.pinned (.plain (OpenSpec.upto ivalSameSpec)) ivalSameUptoCard

/-- THE SECOND FORM's CARD OF 'anticlinelaw4.IvalDots'. -/
def ivalDotsUptoCard : Claim7 := { stood := { row := ivalDotsUptoRow, standIns := [], harness := (true, "056d44788e0d1399874c3ed34b405952b60b785d8998edae5ff89731080da717"), looks := false }, kinds := [], alts := [], laidByText := true, laidKinds := [.data], laidTests := true, laidLooks := .later }
def IvalDotsUptoCardSaid : Prop := Claim7.holds Tryz.pinned (.plain (OpenSpec.upto ivalDotsSpec)) ivalDotsUptoCard
end Rows
end Go.Proofs.YtcfhajnboamnnabGreatDoor
