/-
  NARROWER THAN 'FOR EVERY INPUT', by the rows' own cells (each row's printed sentence says how): FloatBetween: laid · FloatNexts: laid · FloatOps: laid · FloatFma: laid · FloatRoots: laid.
  DERIVED. THE GIVEN ROWS OF THIS SEAT. 5 by the template 'for every input the law returns true; each argument reads behind the call as it read before'; 0 by the template 'total and deterministic' (their statements: YtcfhajnboamnnaaDoorTotals.lean).
  GIVEN WITH THE SEED: the statements are not yours to turn. If you find one false, say at which input.
  Laid BY PROGRAM, IN A SANDBOX (cutbox-rows.mjs): the forced cells as the released guide's own fill.sh prints them over the translation 6d1eea990500223e… (all of the seat's roots in one cut). By AI agents, Wed Nov 11 2026. No macro, syntax, notation, axiom, sorry.
-/
import Derived.Test.YtcfhajnboamnnaaDoorChecked
import GoSem.Claim
import GoSem.ClaimJoined
import GoSem.ClaimMapViews
import Derived.JoinedTies
import Derived.KernelRfl
namespace Go.Proofs.YtcfhajnboamnnaaDoor
/- THE CELL 'sum', in the pinned program and in every row, IS THE sha256 OF THE DUMP (.gsa) THAT YtcfhajnboamnnaaDoorProg.lean LOADS. Nothing in Lean hashes anything: it is a label: what it is worth is what the hold of that sum in a sandbox is worth. -/
noncomputable def Tryd.pinned : Pinned := { name := "ytcfhajnboamnnaadoor", sum := "6d1eea990500223ec74098be122dfb13c7a3f8c6361aa11bb4b1f079d05dad9f", checked := Tryd.checked }
namespace Rows
def none {H : Type} : Left H := { results := [], args := [] }

/- WHAT THE LISTED PACKAGE-LEVEL VARIABLES READ AS WHEN THE CALL BEGINS. Each datum BY PROGRAM (the guide's laid-datum.mjs) off the statement by which the dump's own 'gosem.cut.vars' lays the variable. In a bare row this is a premise. The card (YtcfhajnboamnnaaDoorCards.lean) ties it to the program's text. -/
def laid_anticline_sfloat_rules {H : Type} : DataW H := .agg [.agg [.lit (.int .u8 200), .lit (.int .u8 200), .lit (.bool false)], .agg [.lit (.int .u8 0), .lit (.int .u8 0), .lit (.bool false)], .agg [.lit (.int .u8 0), .lit (.int .u8 238), .lit (.bool true)], .agg [.lit (.int .u8 238), .lit (.int .u8 0), .lit (.bool false)], .agg [.lit (.int .u8 204), .lit (.int .u8 204), .lit (.bool false)]]

/-- 'anticlinelaw3.FloatBetween': WHATEVER THE INPUT: true; the input reads as it did. -/
def floatBetweenSpec : ChangeSpec := { name := "floatBetween", fn := fun _ => fun
  | [d1, d2, d3] => { results := [.lit (.bool true)], args := [d1, d2, d3] }
  | _ => none }
def floatBetweenRow : OpenClaim := { program := "ytcfhajnboamnnaadoor", sum := "6d1eea990500223ec74098be122dfb13c7a3f8c6361aa11bb4b1f079d05dad9f", func := "anticline/anticlinelaw3.FloatBetween", spec := "floatBetween", inPlace := ["math/bits.Add64", "math/bits.Sub64"], unfollowed := true, recurses := true, named := ["anticline/sfloat.rules", "math/bits.divideError", "math/bits.overflowError"], apart := false, laid := [("anticline/sfloat.rules", laid_anticline_sfloat_rules)] }
def FloatBetweenSaid : Prop := floatBetweenRow.holds Tryd.pinned (OpenSpec.ofChange floatBetweenSpec)

/-- ITS FALSE NEIGHBOUR: 'it returns false'. Refute it at one input. -/
def floatBetweenWrong : ChangeSpec := { name := "floatBetween", fn := fun _ => fun
  | [d1, d2, d3] => { results := [.lit (.bool false)], args := [d1, d2, d3] }
  | _ => none }
def FloatBetweenWrongFalsely : Prop := floatBetweenRow.holds Tryd.pinned (OpenSpec.ofChange floatBetweenWrong)

/-- 'anticlinelaw3.FloatNexts': WHATEVER THE INPUT: true; the input reads as it did. -/
def floatNextsSpec : ChangeSpec := { name := "floatNexts", fn := fun _ => fun
  | [d1, d2, d3] => { results := [.lit (.bool true)], args := [d1, d2, d3] }
  | _ => none }
def floatNextsRow : OpenClaim := { program := "ytcfhajnboamnnaadoor", sum := "6d1eea990500223ec74098be122dfb13c7a3f8c6361aa11bb4b1f079d05dad9f", func := "anticline/anticlinelaw3.FloatNexts", spec := "floatNexts", inPlace := ["math/bits.Add64", "math/bits.Sub64"], unfollowed := true, recurses := true, named := ["anticline/sfloat.rules", "math/bits.divideError", "math/bits.overflowError"], apart := false, laid := [("anticline/sfloat.rules", laid_anticline_sfloat_rules)] }
def FloatNextsSaid : Prop := floatNextsRow.holds Tryd.pinned (OpenSpec.ofChange floatNextsSpec)

/-- ITS FALSE NEIGHBOUR: 'it returns false'. Refute it at one input. -/
def floatNextsWrong : ChangeSpec := { name := "floatNexts", fn := fun _ => fun
  | [d1, d2, d3] => { results := [.lit (.bool false)], args := [d1, d2, d3] }
  | _ => none }
def FloatNextsWrongFalsely : Prop := floatNextsRow.holds Tryd.pinned (OpenSpec.ofChange floatNextsWrong)

/-- 'anticlinelaw3.FloatOps': WHATEVER THE INPUT: true; the input reads as it did. -/
def floatOpsSpec : ChangeSpec := { name := "floatOps", fn := fun _ => fun
  | [d1, d2, d3, d4, d5] => { results := [.lit (.bool true)], args := [d1, d2, d3, d4, d5] }
  | _ => none }
def floatOpsRow : OpenClaim := { program := "ytcfhajnboamnnaadoor", sum := "6d1eea990500223ec74098be122dfb13c7a3f8c6361aa11bb4b1f079d05dad9f", func := "anticline/anticlinelaw3.FloatOps", spec := "floatOps", inPlace := ["math/bits.Add64", "math/bits.Sub64"], unfollowed := true, recurses := true, named := ["anticline/sfloat.rules", "math/bits.divideError", "math/bits.overflowError"], apart := false, laid := [("anticline/sfloat.rules", laid_anticline_sfloat_rules)] }
def FloatOpsSaid : Prop := floatOpsRow.holds Tryd.pinned (OpenSpec.ofChange floatOpsSpec)

/-- ITS FALSE NEIGHBOUR: 'it returns false'. Refute it at one input. -/
def floatOpsWrong : ChangeSpec := { name := "floatOps", fn := fun _ => fun
  | [d1, d2, d3, d4, d5] => { results := [.lit (.bool false)], args := [d1, d2, d3, d4, d5] }
  | _ => none }
def FloatOpsWrongFalsely : Prop := floatOpsRow.holds Tryd.pinned (OpenSpec.ofChange floatOpsWrong)

/-- 'anticlinelaw3.FloatFma': WHATEVER THE INPUT: true; the input reads as it did. -/
def floatFmaSpec : ChangeSpec := { name := "floatFma", fn := fun _ => fun
  | [d1, d2, d3, d4, d5, d6, d7] => { results := [.lit (.bool true)], args := [d1, d2, d3, d4, d5, d6, d7] }
  | _ => none }
def floatFmaRow : OpenClaim := { program := "ytcfhajnboamnnaadoor", sum := "6d1eea990500223ec74098be122dfb13c7a3f8c6361aa11bb4b1f079d05dad9f", func := "anticline/anticlinelaw3.FloatFma", spec := "floatFma", inPlace := ["math/bits.Add64", "math/bits.Sub64"], unfollowed := true, recurses := true, named := ["anticline/sfloat.rules", "math/bits.divideError", "math/bits.overflowError"], apart := false, laid := [("anticline/sfloat.rules", laid_anticline_sfloat_rules)] }
def FloatFmaSaid : Prop := floatFmaRow.holds Tryd.pinned (OpenSpec.ofChange floatFmaSpec)

/-- ITS FALSE NEIGHBOUR: 'it returns false'. Refute it at one input. -/
def floatFmaWrong : ChangeSpec := { name := "floatFma", fn := fun _ => fun
  | [d1, d2, d3, d4, d5, d6, d7] => { results := [.lit (.bool false)], args := [d1, d2, d3, d4, d5, d6, d7] }
  | _ => none }
def FloatFmaWrongFalsely : Prop := floatFmaRow.holds Tryd.pinned (OpenSpec.ofChange floatFmaWrong)

/-- 'anticlinelaw3.FloatRoots': WHATEVER THE INPUT: true; the input reads as it did. -/
def floatRootsSpec : ChangeSpec := { name := "floatRoots", fn := fun _ => fun
  | [d1, d2, d3] => { results := [.lit (.bool true)], args := [d1, d2, d3] }
  | _ => none }
def floatRootsRow : OpenClaim := { program := "ytcfhajnboamnnaadoor", sum := "6d1eea990500223ec74098be122dfb13c7a3f8c6361aa11bb4b1f079d05dad9f", func := "anticline/anticlinelaw3.FloatRoots", spec := "floatRoots", inPlace := ["math/bits.Add64", "math/bits.Sub64"], unfollowed := true, recurses := true, named := ["anticline/sfloat.rules", "math/bits.divideError", "math/bits.overflowError"], apart := false, laid := [("anticline/sfloat.rules", laid_anticline_sfloat_rules)] }
def FloatRootsSaid : Prop := floatRootsRow.holds Tryd.pinned (OpenSpec.ofChange floatRootsSpec)

/-- ITS FALSE NEIGHBOUR: 'it returns false'. Refute it at one input. -/
def floatRootsWrong : ChangeSpec := { name := "floatRoots", fn := fun _ => fun
  | [d1, d2, d3] => { results := [.lit (.bool false)], args := [d1, d2, d3] }
  | _ => none }
def FloatRootsWrongFalsely : Prop := floatRootsRow.holds Tryd.pinned (OpenSpec.ofChange floatRootsWrong)

/- THE SECOND FORM. 'bulk': how many values and letters a reading holds, each counted each time it is reached (what is shared counts as often as it is met; a slice's spare places count too). A statement '..UptoSaid' is the law's where the arguments, and the package variables that the reading takes, are together of bulk at most 1048576: NARROWER than '..Said'. Prove '..Said' where nothing that the law and all that it calls make is longer than what came in: it says more and counts as full. Else prove '..UptoSaid'. A law counts once. -/
mutual
def uptoBulk {H : Type} : DataW H → Nat
  | .lit (.string bytes) => bytes.length + 1
  | .lit _ => 1
  | .nil => 1
  | .ptr d => uptoBulk d + 1
  | .slice elems spare => uptoBulkAll elems + uptoBulkAll spare + 1
  | .agg parts => uptoBulkAll parts + 1
  | .iface _ d => uptoBulk d + 1
  | .map entries => uptoBulkEntries entries + 1
  | .held _ => 1
def uptoBulkAll {H : Type} : List (DataW H) → Nat
  | [] => 0
  | d :: r => uptoBulk d + uptoBulkAll r
def uptoBulkEntries {H : Type} : List (Lit × DataW H) → Nat
  | [] => 0
  | x :: r => uptoBulkEntry x + uptoBulkEntries r
def uptoBulkEntry {H : Type} : Lit × DataW H → Nat
  | (.string bytes, d) => bytes.length + uptoBulk d + 1
  | (_, d) => uptoBulk d + 1
 end
def uptoSmall : (H : Type) → List (DataW H) → Bool := fun _ ds => decide (uptoBulkAll ds ≤ 1048576)
def OpenSpec.upto (s : _root_.Go.ChangeSpec) : _root_.Go.OpenSpec := { _root_.Go.OpenSpec.ofChange s with cond := some uptoSmall }

/-- 'anticlinelaw3.FloatBetween', WHERE WHAT IT READS IS OF BULK AT MOST 1048576: true; the input reads as it did. -/
def floatBetweenUptoRow : OpenClaim := { program := "ytcfhajnboamnnaadoor", sum := "6d1eea990500223ec74098be122dfb13c7a3f8c6361aa11bb4b1f079d05dad9f", func := "anticline/anticlinelaw3.FloatBetween", spec := "floatBetween", inPlace := ["math/bits.Add64", "math/bits.Sub64"], unfollowed := true, recurses := true, named := ["anticline/sfloat.rules", "math/bits.divideError", "math/bits.overflowError"], apart := false, laid := [("anticline/sfloat.rules", laid_anticline_sfloat_rules)], narrowed := true }
def FloatBetweenUptoSaid : Prop := floatBetweenUptoRow.holds Tryd.pinned (OpenSpec.upto floatBetweenSpec)

/-- 'anticlinelaw3.FloatNexts', WHERE WHAT IT READS IS OF BULK AT MOST 1048576: true; the input reads as it did. -/
def floatNextsUptoRow : OpenClaim := { program := "ytcfhajnboamnnaadoor", sum := "6d1eea990500223ec74098be122dfb13c7a3f8c6361aa11bb4b1f079d05dad9f", func := "anticline/anticlinelaw3.FloatNexts", spec := "floatNexts", inPlace := ["math/bits.Add64", "math/bits.Sub64"], unfollowed := true, recurses := true, named := ["anticline/sfloat.rules", "math/bits.divideError", "math/bits.overflowError"], apart := false, laid := [("anticline/sfloat.rules", laid_anticline_sfloat_rules)], narrowed := true }
def FloatNextsUptoSaid : Prop := floatNextsUptoRow.holds Tryd.pinned (OpenSpec.upto floatNextsSpec)

/-- 'anticlinelaw3.FloatOps', WHERE WHAT IT READS IS OF BULK AT MOST 1048576: true; the input reads as it did. -/
def floatOpsUptoRow : OpenClaim := { program := "ytcfhajnboamnnaadoor", sum := "6d1eea990500223ec74098be122dfb13c7a3f8c6361aa11bb4b1f079d05dad9f", func := "anticline/anticlinelaw3.FloatOps", spec := "floatOps", inPlace := ["math/bits.Add64", "math/bits.Sub64"], unfollowed := true, recurses := true, named := ["anticline/sfloat.rules", "math/bits.divideError", "math/bits.overflowError"], apart := false, laid := [("anticline/sfloat.rules", laid_anticline_sfloat_rules)], narrowed := true }
def FloatOpsUptoSaid : Prop := floatOpsUptoRow.holds Tryd.pinned (OpenSpec.upto floatOpsSpec)

/-- 'anticlinelaw3.FloatFma', WHERE WHAT IT READS IS OF BULK AT MOST 1048576: true; the input reads as it did. -/
def floatFmaUptoRow : OpenClaim := { program := "ytcfhajnboamnnaadoor", sum := "6d1eea990500223ec74098be122dfb13c7a3f8c6361aa11bb4b1f079d05dad9f", func := "anticline/anticlinelaw3.FloatFma", spec := "floatFma", inPlace := ["math/bits.Add64", "math/bits.Sub64"], unfollowed := true, recurses := true, named := ["anticline/sfloat.rules", "math/bits.divideError", "math/bits.overflowError"], apart := false, laid := [("anticline/sfloat.rules", laid_anticline_sfloat_rules)], narrowed := true }
def FloatFmaUptoSaid : Prop := floatFmaUptoRow.holds Tryd.pinned (OpenSpec.upto floatFmaSpec)

/-- 'anticlinelaw3.FloatRoots', WHERE WHAT IT READS IS OF BULK AT MOST 1048576: true; the input reads as it did. -/
def floatRootsUptoRow : OpenClaim := { program := "ytcfhajnboamnnaadoor", sum := "6d1eea990500223ec74098be122dfb13c7a3f8c6361aa11bb4b1f079d05dad9f", func := "anticline/anticlinelaw3.FloatRoots", spec := "floatRoots", inPlace := ["math/bits.Add64", "math/bits.Sub64"], unfollowed := true, recurses := true, named := ["anticline/sfloat.rules", "math/bits.divideError", "math/bits.overflowError"], apart := false, laid := [("anticline/sfloat.rules", laid_anticline_sfloat_rules)], narrowed := true }
def FloatRootsUptoSaid : Prop := floatRootsUptoRow.holds Tryd.pinned (OpenSpec.upto floatRootsSpec)

end Rows
end Go.Proofs.YtcfhajnboamnnaaDoor
