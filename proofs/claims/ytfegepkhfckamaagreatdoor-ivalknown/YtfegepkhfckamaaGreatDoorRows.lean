/-
  NARROWER THAN 'FOR EVERY INPUT', by the rows' own cells (each row's printed sentence says how): IvalKnown: laid.
  DERIVED. THE GIVEN ROWS OF THIS SEAT. 1 by the template 'for every input the law returns true; each argument reads behind the call as it read before'; 0 by the template 'total and deterministic' (their statements: YtfegepkhfckamaaGreatDoorTotals.lean).
  GIVEN WITH THE SEED: the statements are not yours to turn. If you find one false, say at which input.
  Laid BY PROGRAM, IN A SANDBOX (cutbox-rows.mjs): the forced cells as the released guide's own fill.sh prints them over the translation 2eb6a952bdb48fbf… (all of the seat's roots in one cut). By AI agents, Wed Nov 11 2026. No macro, syntax, notation, axiom, sorry.
-/
import Derived.Test.YtfegepkhfckamaaGreatDoorChecked
import GoSem.Claim
import GoSem.ClaimJoined
import GoSem.ClaimMapViews
import Derived.JoinedTies
import Derived.KernelRfl
namespace Go.Proofs.YtfegepkhfckamaaGreatDoor
/- THE CELL 'sum', in the pinned program and in every row, IS THE sha256 OF THE DUMP (.gsa) THAT YtfegepkhfckamaaGreatDoorProg.lean LOADS. Nothing in Lean hashes anything: it is a label: what it is worth is what the hold of that sum in a sandbox is worth. -/
noncomputable def Tryz.pinned : Pinned := { name := "ytfegepkhfckamaagreatdoor", sum := "2eb6a952bdb48fbf3bf99bfb2299dd714900b7bdc066865392e7bb1aa9d17e6d", checked := Tryz.checked }
namespace Rows
def none {H : Type} : Left H := { results := [], args := [] }

/- WHAT THE LISTED PACKAGE-LEVEL VARIABLES READ AS WHEN THE CALL BEGINS. Each datum BY PROGRAM (the guide's laid-datum.mjs) off the statement by which the dump's own 'gosem.cut.vars' lays the variable. In a bare row this is a premise. The card (YtfegepkhfckamaaGreatDoorCards.lean) ties it to the program's text. -/
def laid_anticline_sfloat_rules {H : Type} : DataW H := .agg [.agg [.lit (.int .u8 200), .lit (.int .u8 200), .lit (.bool false)], .agg [.lit (.int .u8 0), .lit (.int .u8 0), .lit (.bool false)], .agg [.lit (.int .u8 0), .lit (.int .u8 238), .lit (.bool true)], .agg [.lit (.int .u8 238), .lit (.int .u8 0), .lit (.bool false)], .agg [.lit (.int .u8 204), .lit (.int .u8 204), .lit (.bool false)]]

/-- 'anticlinelaw4.IvalKnown': WHATEVER THE INPUT: true; the input reads as it did. -/
def ivalKnownSpec : ChangeSpec := { name := "ivalKnown", fn := fun _ => fun
  | [d] => { results := [.lit (.bool true)], args := [d] }
  | _ => none }
def ivalKnownRow : OpenClaim := { program := "ytfegepkhfckamaagreatdoor", sum := "2eb6a952bdb48fbf3bf99bfb2299dd714900b7bdc066865392e7bb1aa9d17e6d", func := "anticline/anticlinelaw4.IvalKnown", spec := "ivalKnown", inPlace := ["math/bits.Add64", "math/bits.Sub64"], unfollowed := true, recurses := true, named := ["anticline/sfloat.rules", "math/bits.divideError", "math/bits.overflowError"], apart := false, laid := [("anticline/sfloat.rules", laid_anticline_sfloat_rules)] }
def IvalKnownSaid : Prop := ivalKnownRow.holds Tryz.pinned (OpenSpec.ofChange ivalKnownSpec)

/-- ITS FALSE NEIGHBOUR: 'it returns false'. Refute it at one input. -/
def ivalKnownWrong : ChangeSpec := { name := "ivalKnown", fn := fun _ => fun
  | [d] => { results := [.lit (.bool false)], args := [d] }
  | _ => none }
def IvalKnownWrongFalsely : Prop := ivalKnownRow.holds Tryz.pinned (OpenSpec.ofChange ivalKnownWrong)

/- THE SECOND FORM. 'bulk': how many values and letters a reading holds, each counted each time it is reached (what is shared counts as often as it is met; a slice's spare places count too). A statement '..UptoSaid' is the law's where the arguments, and the package variables that the reading takes, are together of bulk at most 1048576: NARROWER than '..Said'. Prove '..Said' where nothing that the law and all that it calls make is longer than what came in: it says more and counts as full. Else prove '..UptoSaid'. A law counts once. -/
mutual
def uptoBulk {H : Type} : DataW H → Nat
  | .lit (.string bytes) => bytes.length + 1
  | .lit _ => 1
  | .nil => 1
  | .ptr d => uptoBulk d + 1
  | .slice elems spare => uptoBulkAll elems + uptoBulkAll spare + 1
  | .agg parts => uptoBulkAll parts + 1
  | .iface _ d => uptoBulk d + 1
  | .map entries => uptoBulkEntries entries + 1
  | .held _ => 1
def uptoBulkAll {H : Type} : List (DataW H) → Nat
  | [] => 0
  | d :: r => uptoBulk d + uptoBulkAll r
def uptoBulkEntries {H : Type} : List (Lit × DataW H) → Nat
  | [] => 0
  | x :: r => uptoBulkEntry x + uptoBulkEntries r
def uptoBulkEntry {H : Type} : Lit × DataW H → Nat
  | (.string bytes, d) => bytes.length + uptoBulk d + 1
  | (_, d) => uptoBulk d + 1
 end
def uptoSmall : (H : Type) → List (DataW H) → Bool := fun _ ds => decide (uptoBulkAll ds ≤ 1048576)
def OpenSpec.upto (s : _root_.Go.ChangeSpec) : _root_.Go.OpenSpec := { _root_.Go.OpenSpec.ofChange s with cond := some uptoSmall }

/-- 'anticlinelaw4.IvalKnown', WHERE WHAT IT READS IS OF BULK AT MOST 1048576: true; the input reads as it did. -/
def ivalKnownUptoRow : OpenClaim := { program := "ytfegepkhfckamaagreatdoor", sum := "2eb6a952bdb48fbf3bf99bfb2299dd714900b7bdc066865392e7bb1aa9d17e6d", func := "anticline/anticlinelaw4.IvalKnown", spec := "ivalKnown", inPlace := ["math/bits.Add64", "math/bits.Sub64"], unfollowed := true, recurses := true, named := ["anticline/sfloat.rules", "math/bits.divideError", "math/bits.overflowError"], apart := false, laid := [("anticline/sfloat.rules", laid_anticline_sfloat_rules)], narrowed := true }
def IvalKnownUptoSaid : Prop := ivalKnownUptoRow.holds Tryz.pinned (OpenSpec.upto ivalKnownSpec)

end Rows
end Go.Proofs.YtfegepkhfckamaaGreatDoor
