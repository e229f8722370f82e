/-
  NARROWER THAN 'FOR EVERY INPUT', by the rows' own cells (each row's printed sentence says how): FloatOps: laid · FloatFma: laid · FloatOrder: laid · FloatBack: laid · FloatBetween: laid.
  DERIVED. THE GIVEN ROWS OF THIS SEAT. 5 by the template 'for every input the law returns true; each argument reads behind the call as it read before'; 0 by the template 'total and deterministic' (their statements: YtmidccmehpjjlaaDoorTotals.lean).
  GIVEN WITH THE SEED: the statements are not yours to turn. If you find one false, say at which input.
  Laid BY PROGRAM, IN A SANDBOX (cutbox-rows.mjs): the forced cells as the released guide's own fill.sh prints them over the translation 88f3cb74f6054d34… (all of the seat's roots in one cut). By AI agents, Wed Nov 11 2026. No macro, syntax, notation, axiom, sorry.
-/
import Derived.Test.YtmidccmehpjjlaaDoorChecked
import GoSem.Claim
import GoSem.ClaimJoined
import GoSem.ClaimMapViews
import Derived.JoinedTies
import Derived.KernelRfl
namespace Go.Proofs.YtmidccmehpjjlaaDoor
/- THE CELL 'sum', in the pinned program and in every row, IS THE sha256 OF THE DUMP (.gsa) THAT YtmidccmehpjjlaaDoorProg.lean LOADS. Nothing in Lean hashes anything: it is a label: what it is worth is what the hold of that sum in a sandbox is worth. -/
noncomputable def Tryd.pinned : Pinned := { name := "ytmidccmehpjjlaadoor", sum := "88f3cb74f6054d346aa1d0f4319a1a59a6cda5a04860a70ac3a28042c2004e98", checked := Tryd.checked }
namespace Rows
def none {H : Type} : Left H := { results := [], args := [] }

/- WHAT THE LISTED PACKAGE-LEVEL VARIABLES READ AS WHEN THE CALL BEGINS. Each datum BY PROGRAM (the guide's laid-datum.mjs) off the statement by which the dump's own 'gosem.cut.vars' lays the variable. In a bare row this is a premise. The card (YtmidccmehpjjlaaDoorCards.lean) ties it to the program's text. -/
def laid_anticline_sfloat_rules {H : Type} : DataW H := .agg [.agg [.lit (.int .u8 200), .lit (.int .u8 200), .lit (.bool false)], .agg [.lit (.int .u8 0), .lit (.int .u8 0), .lit (.bool false)], .agg [.lit (.int .u8 0), .lit (.int .u8 238), .lit (.bool true)], .agg [.lit (.int .u8 238), .lit (.int .u8 0), .lit (.bool false)], .agg [.lit (.int .u8 204), .lit (.int .u8 204), .lit (.bool false)]]

/-- 'anticlinelaw3.FloatOps': WHATEVER THE INPUT: true; the input reads as it did. -/
def floatOpsSpec : ChangeSpec := { name := "floatOps", fn := fun _ => fun
  | [d1, d2, d3, d4, d5] => { results := [.lit (.bool true)], args := [d1, d2, d3, d4, d5] }
  | _ => none }
def floatOpsRow : OpenClaim := { program := "ytmidccmehpjjlaadoor", sum := "88f3cb74f6054d346aa1d0f4319a1a59a6cda5a04860a70ac3a28042c2004e98", func := "anticline/anticlinelaw3.FloatOps", spec := "floatOps", inPlace := ["math/bits.Add64", "math/bits.Sub64"], unfollowed := true, recurses := true, named := ["anticline/sfloat.rules", "math/bits.divideError", "math/bits.overflowError"], apart := false, laid := [("anticline/sfloat.rules", laid_anticline_sfloat_rules)] }
def FloatOpsSaid : Prop := floatOpsRow.holds Tryd.pinned (OpenSpec.ofChange floatOpsSpec)

/-- ITS FALSE NEIGHBOUR: 'it returns false'. Refute it at one input. -/
def floatOpsWrong : ChangeSpec := { name := "floatOps", fn := fun _ => fun
  | [d1, d2, d3, d4, d5] => { results := [.lit (.bool false)], args := [d1, d2, d3, d4, d5] }
  | _ => none }
def FloatOpsWrongFalsely : Prop := floatOpsRow.holds Tryd.pinned (OpenSpec.ofChange floatOpsWrong)

/-- 'anticlinelaw3.FloatFma': WHATEVER THE INPUT: true; the input reads as it did. -/
def floatFmaSpec : ChangeSpec := { name := "floatFma", fn := fun _ => fun
  | [d1, d2, d3, d4, d5, d6, d7] => { results := [.lit (.bool true)], args := [d1, d2, d3, d4, d5, d6, d7] }
  | _ => none }
def floatFmaRow : OpenClaim := { program := "ytmidccmehpjjlaadoor", sum := "88f3cb74f6054d346aa1d0f4319a1a59a6cda5a04860a70ac3a28042c2004e98", func := "anticline/anticlinelaw3.FloatFma", spec := "floatFma", inPlace := ["math/bits.Add64", "math/bits.Sub64"], unfollowed := true, recurses := true, named := ["anticline/sfloat.rules", "math/bits.divideError", "math/bits.overflowError"], apart := false, laid := [("anticline/sfloat.rules", laid_anticline_sfloat_rules)] }
def FloatFmaSaid : Prop := floatFmaRow.holds Tryd.pinned (OpenSpec.ofChange floatFmaSpec)

/-- ITS FALSE NEIGHBOUR: 'it returns false'. Refute it at one input. -/
def floatFmaWrong : ChangeSpec := { name := "floatFma", fn := fun _ => fun
  | [d1, d2, d3, d4, d5, d6, d7] => { results := [.lit (.bool false)], args := [d1, d2, d3, d4, d5, d6, d7] }
  | _ => none }
def FloatFmaWrongFalsely : Prop := floatFmaRow.holds Tryd.pinned (OpenSpec.ofChange floatFmaWrong)

/-- 'anticlinelaw3.FloatOrder': WHATEVER THE INPUT: true; the input reads as it did. -/
def floatOrderSpec : ChangeSpec := { name := "floatOrder", fn := fun _ => fun
  | [d1, d2, d3, d4, d5] => { results := [.lit (.bool true)], args := [d1, d2, d3, d4, d5] }
  | _ => none }
def floatOrderRow : OpenClaim := { program := "ytmidccmehpjjlaadoor", sum := "88f3cb74f6054d346aa1d0f4319a1a59a6cda5a04860a70ac3a28042c2004e98", func := "anticline/anticlinelaw3.FloatOrder", spec := "floatOrder", inPlace := ["math/bits.Add64", "math/bits.Sub64"], unfollowed := true, recurses := true, named := ["anticline/sfloat.rules", "math/bits.divideError", "math/bits.overflowError"], apart := false, laid := [("anticline/sfloat.rules", laid_anticline_sfloat_rules)] }
def FloatOrderSaid : Prop := floatOrderRow.holds Tryd.pinned (OpenSpec.ofChange floatOrderSpec)

/-- ITS FALSE NEIGHBOUR: 'it returns false'. Refute it at one input. -/
def floatOrderWrong : ChangeSpec := { name := "floatOrder", fn := fun _ => fun
  | [d1, d2, d3, d4, d5] => { results := [.lit (.bool false)], args := [d1, d2, d3, d4, d5] }
  | _ => none }
def FloatOrderWrongFalsely : Prop := floatOrderRow.holds Tryd.pinned (OpenSpec.ofChange floatOrderWrong)

/-- 'anticlinelaw3.FloatBack': WHATEVER THE INPUT: true; the input reads as it did. -/
def floatBackSpec : ChangeSpec := { name := "floatBack", fn := fun _ => fun
  | [d1, d2, d3] => { results := [.lit (.bool true)], args := [d1, d2, d3] }
  | _ => none }
def floatBackRow : OpenClaim := { program := "ytmidccmehpjjlaadoor", sum := "88f3cb74f6054d346aa1d0f4319a1a59a6cda5a04860a70ac3a28042c2004e98", func := "anticline/anticlinelaw3.FloatBack", spec := "floatBack", inPlace := ["math/bits.Add64", "math/bits.Sub64"], unfollowed := true, recurses := true, named := ["anticline/sfloat.rules", "math/bits.divideError", "math/bits.overflowError"], apart := false, laid := [("anticline/sfloat.rules", laid_anticline_sfloat_rules)] }
def FloatBackSaid : Prop := floatBackRow.holds Tryd.pinned (OpenSpec.ofChange floatBackSpec)

/-- ITS FALSE NEIGHBOUR: 'it returns false'. Refute it at one input. -/
def floatBackWrong : ChangeSpec := { name := "floatBack", fn := fun _ => fun
  | [d1, d2, d3] => { results := [.lit (.bool false)], args := [d1, d2, d3] }
  | _ => none }
def FloatBackWrongFalsely : Prop := floatBackRow.holds Tryd.pinned (OpenSpec.ofChange floatBackWrong)

/-- 'anticlinelaw3.FloatBetween': WHATEVER THE INPUT: true; the input reads as it did. -/
def floatBetweenSpec : ChangeSpec := { name := "floatBetween", fn := fun _ => fun
  | [d1, d2, d3] => { results := [.lit (.bool true)], args := [d1, d2, d3] }
  | _ => none }
def floatBetweenRow : OpenClaim := { program := "ytmidccmehpjjlaadoor", sum := "88f3cb74f6054d346aa1d0f4319a1a59a6cda5a04860a70ac3a28042c2004e98", func := "anticline/anticlinelaw3.FloatBetween", spec := "floatBetween", inPlace := ["math/bits.Add64", "math/bits.Sub64"], unfollowed := true, recurses := true, named := ["anticline/sfloat.rules", "math/bits.divideError", "math/bits.overflowError"], apart := false, laid := [("anticline/sfloat.rules", laid_anticline_sfloat_rules)] }
def FloatBetweenSaid : Prop := floatBetweenRow.holds Tryd.pinned (OpenSpec.ofChange floatBetweenSpec)

/-- ITS FALSE NEIGHBOUR: 'it returns false'. Refute it at one input. -/
def floatBetweenWrong : ChangeSpec := { name := "floatBetween", fn := fun _ => fun
  | [d1, d2, d3] => { results := [.lit (.bool false)], args := [d1, d2, d3] }
  | _ => none }
def FloatBetweenWrongFalsely : Prop := floatBetweenRow.holds Tryd.pinned (OpenSpec.ofChange floatBetweenWrong)

/- THE SECOND FORM. 'bulk': how many values and letters a reading holds, each counted each time it is reached (what is shared counts as often as it is met; a slice's spare places count too). A statement '..UptoSaid' is the law's where the arguments, and the package variables that the reading takes, are together of bulk at most 1048576: NARROWER than '..Said'. Prove '..Said' where nothing that the law and all that it calls make is longer than what came in: it says more and counts as full. Else prove '..UptoSaid'. A law counts once. -/
mutual
def uptoBulk {H : Type} : DataW H → Nat
  | .lit (.string bytes) => bytes.length + 1
  | .lit _ => 1
  | .nil => 1
  | .ptr d => uptoBulk d + 1
  | .slice elems spare => uptoBulkAll elems + uptoBulkAll spare + 1
  | .agg parts => uptoBulkAll parts + 1
  | .iface _ d => uptoBulk d + 1
  | .map entries => uptoBulkEntries entries + 1
  | .held _ => 1
def uptoBulkAll {H : Type} : List (DataW H) → Nat
  | [] => 0
  | d :: r => uptoBulk d + uptoBulkAll r
def uptoBulkEntries {H : Type} : List (Lit × DataW H) → Nat
  | [] => 0
  | x :: r => uptoBulkEntry x + uptoBulkEntries r
def uptoBulkEntry {H : Type} : Lit × DataW H → Nat
  | (.string bytes, d) => bytes.length + uptoBulk d + 1
  | (_, d) => uptoBulk d + 1
 end
def uptoSmall : (H : Type) → List (DataW H) → Bool := fun _ ds => decide (uptoBulkAll ds ≤ 1048576)
def OpenSpec.upto (s : _root_.Go.ChangeSpec) : _root_.Go.OpenSpec := { _root_.Go.OpenSpec.ofChange s with cond := some uptoSmall }

/-- 'anticlinelaw3.FloatOps', WHERE WHAT IT READS IS OF BULK AT MOST 1048576: true; the input reads as it did. -/
def floatOpsUptoRow : OpenClaim := { program := "ytmidccmehpjjlaadoor", sum := "88f3cb74f6054d346aa1d0f4319a1a59a6cda5a04860a70ac3a28042c2004e98", func := "anticline/anticlinelaw3.FloatOps", spec := "floatOps", inPlace := ["math/bits.Add64", "math/bits.Sub64"], unfollowed := true, recurses := true, named := ["anticline/sfloat.rules", "math/bits.divideError", "math/bits.overflowError"], apart := false, laid := [("anticline/sfloat.rules", laid_anticline_sfloat_rules)], narrowed := true }
def FloatOpsUptoSaid : Prop := floatOpsUptoRow.holds Tryd.pinned (OpenSpec.upto floatOpsSpec)

/-- 'anticlinelaw3.FloatFma', WHERE WHAT IT READS IS OF BULK AT MOST 1048576: true; the input reads as it did. -/
def floatFmaUptoRow : OpenClaim := { program := "ytmidccmehpjjlaadoor", sum := "88f3cb74f6054d346aa1d0f4319a1a59a6cda5a04860a70ac3a28042c2004e98", func := "anticline/anticlinelaw3.FloatFma", spec := "floatFma", inPlace := ["math/bits.Add64", "math/bits.Sub64"], unfollowed := true, recurses := true, named := ["anticline/sfloat.rules", "math/bits.divideError", "math/bits.overflowError"], apart := false, laid := [("anticline/sfloat.rules", laid_anticline_sfloat_rules)], narrowed := true }
def FloatFmaUptoSaid : Prop := floatFmaUptoRow.holds Tryd.pinned (OpenSpec.upto floatFmaSpec)

/-- 'anticlinelaw3.FloatOrder', WHERE WHAT IT READS IS OF BULK AT MOST 1048576: true; the input reads as it did. -/
def floatOrderUptoRow : OpenClaim := { program := "ytmidccmehpjjlaadoor", sum := "88f3cb74f6054d346aa1d0f4319a1a59a6cda5a04860a70ac3a28042c2004e98", func := "anticline/anticlinelaw3.FloatOrder", spec := "floatOrder", inPlace := ["math/bits.Add64", "math/bits.Sub64"], unfollowed := true, recurses := true, named := ["anticline/sfloat.rules", "math/bits.divideError", "math/bits.overflowError"], apart := false, laid := [("anticline/sfloat.rules", laid_anticline_sfloat_rules)], narrowed := true }
def FloatOrderUptoSaid : Prop := floatOrderUptoRow.holds Tryd.pinned (OpenSpec.upto floatOrderSpec)

/-- 'anticlinelaw3.FloatBack', WHERE WHAT IT READS IS OF BULK AT MOST 1048576: true; the input reads as it did. -/
def floatBackUptoRow : OpenClaim := { program := "ytmidccmehpjjlaadoor", sum := "88f3cb74f6054d346aa1d0f4319a1a59a6cda5a04860a70ac3a28042c2004e98", func := "anticline/anticlinelaw3.FloatBack", spec := "floatBack", inPlace := ["math/bits.Add64", "math/bits.Sub64"], unfollowed := true, recurses := true, named := ["anticline/sfloat.rules", "math/bits.divideError", "math/bits.overflowError"], apart := false, laid := [("anticline/sfloat.rules", laid_anticline_sfloat_rules)], narrowed := true }
def FloatBackUptoSaid : Prop := floatBackUptoRow.holds Tryd.pinned (OpenSpec.upto floatBackSpec)

/-- 'anticlinelaw3.FloatBetween', WHERE WHAT IT READS IS OF BULK AT MOST 1048576: true; the input reads as it did. -/
def floatBetweenUptoRow : OpenClaim := { program := "ytmidccmehpjjlaadoor", sum := "88f3cb74f6054d346aa1d0f4319a1a59a6cda5a04860a70ac3a28042c2004e98", func := "anticline/anticlinelaw3.FloatBetween", spec := "floatBetween", inPlace := ["math/bits.Add64", "math/bits.Sub64"], unfollowed := true, recurses := true, named := ["anticline/sfloat.rules", "math/bits.divideError", "math/bits.overflowError"], apart := false, laid := [("anticline/sfloat.rules", laid_anticline_sfloat_rules)], narrowed := true }
def FloatBetweenUptoSaid : Prop := floatBetweenUptoRow.holds Tryd.pinned (OpenSpec.upto floatBetweenSpec)

end Rows
end Go.Proofs.YtmidccmehpjjlaaDoor
