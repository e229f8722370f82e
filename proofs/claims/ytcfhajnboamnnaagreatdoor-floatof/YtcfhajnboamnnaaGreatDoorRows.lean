/-
  NARROWER THAN 'FOR EVERY INPUT', by the rows' own cells (each row's printed sentence says how): FloatOf: laid.
  DERIVED. THE GIVEN ROWS OF THIS SEAT. 1 by the template 'for every input the law returns true; each argument reads behind the call as it read before'; 0 by the template 'total and deterministic' (their statements: YtcfhajnboamnnaaGreatDoorTotals.lean).
  GIVEN WITH THE SEED: the statements are not yours to turn. If you find one false, say at which input.
  Laid BY PROGRAM, IN A SANDBOX (cutbox-rows.mjs): the forced cells as the released guide's own fill.sh prints them over the translation b207ac6488d00cbd… (all of the seat's roots in one cut). By AI agents, Wed Nov 11 2026. No macro, syntax, notation, axiom, sorry.
-/
import Derived.Test.YtcfhajnboamnnaaGreatDoorChecked
import GoSem.Claim
import GoSem.ClaimJoined
import GoSem.ClaimMapViews
import Derived.JoinedTies
import Derived.KernelRfl
namespace Go.Proofs.YtcfhajnboamnnaaGreatDoor
/- THE CELL 'sum', in the pinned program and in every row, IS THE sha256 OF THE DUMP (.gsa) THAT YtcfhajnboamnnaaGreatDoorProg.lean LOADS. Nothing in Lean hashes anything: it is a label: what it is worth is what the hold of that sum in a sandbox is worth. -/
noncomputable def Tryz.pinned : Pinned := { name := "ytcfhajnboamnnaagreatdoor", sum := "b207ac6488d00cbdbff2987c30298004749db42296818aab8e7872142bbfd6ba", checked := Tryz.checked }
namespace Rows
def none {H : Type} : Left H := { results := [], args := [] }

/- WHAT THE LISTED PACKAGE-LEVEL VARIABLES READ AS WHEN THE CALL BEGINS. Each datum BY PROGRAM (the guide's laid-datum.mjs) off the statement by which the dump's own 'gosem.cut.vars' lays the variable. In a bare row this is a premise. The card (YtcfhajnboamnnaaGreatDoorCards.lean) ties it to the program's text. -/
def laid_anticline_sfloat_rules {H : Type} : DataW H := .agg [.agg [.lit (.int .u8 200), .lit (.int .u8 200), .lit (.bool false)], .agg [.lit (.int .u8 0), .lit (.int .u8 0), .lit (.bool false)], .agg [.lit (.int .u8 0), .lit (.int .u8 238), .lit (.bool true)], .agg [.lit (.int .u8 238), .lit (.int .u8 0), .lit (.bool false)], .agg [.lit (.int .u8 204), .lit (.int .u8 204), .lit (.bool false)]]

/-- 'anticlinelaw3.FloatOf': WHATEVER THE INPUT: true; the input reads as it did. -/
def floatOfSpec : ChangeSpec := { name := "floatOf", fn := fun _ => fun
  | [d1, d2, d3, d4, d5] => { results := [.lit (.bool true)], args := [d1, d2, d3, d4, d5] }
  | _ => none }
def floatOfRow : OpenClaim := { program := "ytcfhajnboamnnaagreatdoor", sum := "b207ac6488d00cbdbff2987c30298004749db42296818aab8e7872142bbfd6ba", func := "anticline/anticlinelaw3.FloatOf", spec := "floatOf", inPlace := ["math/bits.Add64", "math/bits.Sub64"], unfollowed := true, recurses := true, named := ["anticline/sfloat.rules", "math/bits.divideError", "math/bits.overflowError"], apart := false, laid := [("anticline/sfloat.rules", laid_anticline_sfloat_rules)] }
def FloatOfSaid : Prop := floatOfRow.holds Tryz.pinned (OpenSpec.ofChange floatOfSpec)

/-- ITS FALSE NEIGHBOUR: 'it returns false'. Refute it at one input. -/
def floatOfWrong : ChangeSpec := { name := "floatOf", fn := fun _ => fun
  | [d1, d2, d3, d4, d5] => { results := [.lit (.bool false)], args := [d1, d2, d3, d4, d5] }
  | _ => none }
def FloatOfWrongFalsely : Prop := floatOfRow.holds Tryz.pinned (OpenSpec.ofChange floatOfWrong)

/- THE SECOND FORM. 'bulk': how many values and letters a reading holds, each counted each time it is reached (what is shared counts as often as it is met; a slice's spare places count too). A statement '..UptoSaid' is the law's where the arguments, and the package variables that the reading takes, are together of bulk at most 1048576: NARROWER than '..Said'. Prove '..Said' where nothing that the law and all that it calls make is longer than what came in: it says more and counts as full. Else prove '..UptoSaid'. A law counts once. -/
mutual
def uptoBulk {H : Type} : DataW H → Nat
  | .lit (.string bytes) => bytes.length + 1
  | .lit _ => 1
  | .nil => 1
  | .ptr d => uptoBulk d + 1
  | .slice elems spare => uptoBulkAll elems + uptoBulkAll spare + 1
  | .agg parts => uptoBulkAll parts + 1
  | .iface _ d => uptoBulk d + 1
  | .map entries => uptoBulkEntries entries + 1
  | .held _ => 1
def uptoBulkAll {H : Type} : List (DataW H) → Nat
  | [] => 0
  | d :: r => uptoBulk d + uptoBulkAll r
def uptoBulkEntries {H : Type} : List (Lit × DataW H) → Nat
  | [] => 0
  | x :: r => uptoBulkEntry x + uptoBulkEntries r
def uptoBulkEntry {H : Type} : Lit × DataW H → Nat
  | (.string bytes, d) => bytes.length + uptoBulk d + 1
  | (_, d) => uptoBulk d + 1
 end
def uptoSmall : (H : Type) → List (DataW H) → Bool := fun _ ds => decide (uptoBulkAll ds ≤ 1048576)
def OpenSpec.upto (s : _root_.Go.ChangeSpec) : _root_.Go.OpenSpec := { _root_.Go.OpenSpec.ofChange s with cond := some uptoSmall }

/-- 'anticlinelaw3.FloatOf', WHERE WHAT IT READS IS OF BULK AT MOST 1048576: true; the input reads as it did. -/
def floatOfUptoRow : OpenClaim := { program := "ytcfhajnboamnnaagreatdoor", sum := "b207ac6488d00cbdbff2987c30298004749db42296818aab8e7872142bbfd6ba", func := "anticline/anticlinelaw3.FloatOf", spec := "floatOf", inPlace := ["math/bits.Add64", "math/bits.Sub64"], unfollowed := true, recurses := true, named := ["anticline/sfloat.rules", "math/bits.divideError", "math/bits.overflowError"], apart := false, laid := [("anticline/sfloat.rules", laid_anticline_sfloat_rules)], narrowed := true }
def FloatOfUptoSaid : Prop := floatOfUptoRow.holds Tryz.pinned (OpenSpec.upto floatOfSpec)

end Rows
end Go.Proofs.YtcfhajnboamnnaaGreatDoor
