/-
  NARROWER THAN 'FOR EVERY INPUT', by the rows' own cells (each row's printed sentence says how): IvalOps: laid · IvalHolds: laid · IvalWider: laid · IvalSame: laid · IvalDots: laid.
  DERIVED. THE GIVEN ROWS OF THIS SEAT. 5 by the template 'for every input the law returns true; each argument reads behind the call as it read before'; 0 by the template 'total and deterministic' (their statements: YtcfhajnboamnnabGreatDoorTotals.lean).
  GIVEN WITH THE SEED: the statements are not yours to turn. If you find one false, say at which input.
  Laid BY PROGRAM, IN A SANDBOX (cutbox-rows.mjs): the forced cells as the released guide's own fill.sh prints them over the translation 5f1a0983a96feef9… (all of the seat's roots in one cut). By AI agents, Wed Nov 11 2026. No macro, syntax, notation, axiom, sorry.
-/
import Derived.Test.YtcfhajnboamnnabGreatDoorChecked
import GoSem.Claim
import GoSem.ClaimJoined
import GoSem.ClaimMapViews
import Derived.JoinedTies
import Derived.KernelRfl
namespace Go.Proofs.YtcfhajnboamnnabGreatDoor
/- THE CELL 'sum', in the pinned program and in every row, IS THE sha256 OF THE DUMP (.gsa) THAT YtcfhajnboamnnabGreatDoorProg.lean LOADS. Nothing in Lean hashes anything: it is a label: what it is worth is what the hold of that sum in a sandbox is worth. -/
noncomputable def Tryz.pinned : Pinned := { name := "ytcfhajnboamnnabgreatdoor", sum := "5f1a0983a96feef99beb005fc382f31a03e9c1fe919033126cbb08afc6e5f896", checked := Tryz.checked }
namespace Rows
def none {H : Type} : Left H := { results := [], args := [] }

/- WHAT THE LISTED PACKAGE-LEVEL VARIABLES READ AS WHEN THE CALL BEGINS. Each datum BY PROGRAM (the guide's laid-datum.mjs) off the statement by which the dump's own 'gosem.cut.vars' lays the variable. In a bare row this is a premise. The card (YtcfhajnboamnnabGreatDoorCards.lean) ties it to the program's text. -/
def laid_anticline_sfloat_rules {H : Type} : DataW H := .agg [.agg [.lit (.int .u8 200), .lit (.int .u8 200), .lit (.bool false)], .agg [.lit (.int .u8 0), .lit (.int .u8 0), .lit (.bool false)], .agg [.lit (.int .u8 0), .lit (.int .u8 238), .lit (.bool true)], .agg [.lit (.int .u8 238), .lit (.int .u8 0), .lit (.bool false)], .agg [.lit (.int .u8 204), .lit (.int .u8 204), .lit (.bool false)]]

/-- 'anticlinelaw4.IvalOps': WHATEVER THE INPUT: true; the input reads as it did. -/
def ivalOpsSpec : ChangeSpec := { name := "ivalOps", fn := fun _ => fun
  | [d1, d2, d3, d4, d5] => { results := [.lit (.bool true)], args := [d1, d2, d3, d4, d5] }
  | _ => none }
def ivalOpsRow : OpenClaim := { program := "ytcfhajnboamnnabgreatdoor", sum := "5f1a0983a96feef99beb005fc382f31a03e9c1fe919033126cbb08afc6e5f896", func := "anticline/anticlinelaw4.IvalOps", spec := "ivalOps", inPlace := ["math/bits.Add64", "math/bits.Sub64"], unfollowed := true, recurses := true, named := ["anticline/sfloat.rules", "math/bits.divideError", "math/bits.overflowError"], apart := false, laid := [("anticline/sfloat.rules", laid_anticline_sfloat_rules)] }
def IvalOpsSaid : Prop := ivalOpsRow.holds Tryz.pinned (OpenSpec.ofChange ivalOpsSpec)

/-- ITS FALSE NEIGHBOUR: 'it returns false'. Refute it at one input. -/
def ivalOpsWrong : ChangeSpec := { name := "ivalOps", fn := fun _ => fun
  | [d1, d2, d3, d4, d5] => { results := [.lit (.bool false)], args := [d1, d2, d3, d4, d5] }
  | _ => none }
def IvalOpsWrongFalsely : Prop := ivalOpsRow.holds Tryz.pinned (OpenSpec.ofChange ivalOpsWrong)

/-- 'anticlinelaw4.IvalHolds': WHATEVER THE INPUT: true; the input reads as it did. -/
def ivalHoldsSpec : ChangeSpec := { name := "ivalHolds", fn := fun _ => fun
  | [d1, d2, d3, d4, d5, d6] => { results := [.lit (.bool true)], args := [d1, d2, d3, d4, d5, d6] }
  | _ => none }
def ivalHoldsRow : OpenClaim := { program := "ytcfhajnboamnnabgreatdoor", sum := "5f1a0983a96feef99beb005fc382f31a03e9c1fe919033126cbb08afc6e5f896", func := "anticline/anticlinelaw4.IvalHolds", spec := "ivalHolds", inPlace := ["math/bits.Add64", "math/bits.Sub64"], unfollowed := true, recurses := true, named := ["anticline/sfloat.rules", "math/bits.divideError", "math/bits.overflowError"], apart := false, laid := [("anticline/sfloat.rules", laid_anticline_sfloat_rules)] }
def IvalHoldsSaid : Prop := ivalHoldsRow.holds Tryz.pinned (OpenSpec.ofChange ivalHoldsSpec)

/-- ITS FALSE NEIGHBOUR: 'it returns false'. Refute it at one input. -/
def ivalHoldsWrong : ChangeSpec := { name := "ivalHolds", fn := fun _ => fun
  | [d1, d2, d3, d4, d5, d6] => { results := [.lit (.bool false)], args := [d1, d2, d3, d4, d5, d6] }
  | _ => none }
def IvalHoldsWrongFalsely : Prop := ivalHoldsRow.holds Tryz.pinned (OpenSpec.ofChange ivalHoldsWrong)

/-- 'anticlinelaw4.IvalWider': WHATEVER THE INPUT: true; the input reads as it did. -/
def ivalWiderSpec : ChangeSpec := { name := "ivalWider", fn := fun _ => fun
  | [d1, d2, d3, d4, d5] => { results := [.lit (.bool true)], args := [d1, d2, d3, d4, d5] }
  | _ => none }
def ivalWiderRow : OpenClaim := { program := "ytcfhajnboamnnabgreatdoor", sum := "5f1a0983a96feef99beb005fc382f31a03e9c1fe919033126cbb08afc6e5f896", func := "anticline/anticlinelaw4.IvalWider", spec := "ivalWider", inPlace := ["math/bits.Add64", "math/bits.Sub64"], unfollowed := true, recurses := true, named := ["anticline/sfloat.rules"], apart := false, laid := [("anticline/sfloat.rules", laid_anticline_sfloat_rules)] }
def IvalWiderSaid : Prop := ivalWiderRow.holds Tryz.pinned (OpenSpec.ofChange ivalWiderSpec)

/-- ITS FALSE NEIGHBOUR: 'it returns false'. Refute it at one input. -/
def ivalWiderWrong : ChangeSpec := { name := "ivalWider", fn := fun _ => fun
  | [d1, d2, d3, d4, d5] => { results := [.lit (.bool false)], args := [d1, d2, d3, d4, d5] }
  | _ => none }
def IvalWiderWrongFalsely : Prop := ivalWiderRow.holds Tryz.pinned (OpenSpec.ofChange ivalWiderWrong)

/-- 'anticlinelaw4.IvalSame': WHATEVER THE INPUT: true; the input reads as it did. -/
def ivalSameSpec : ChangeSpec := { name := "ivalSame", fn := fun _ => fun
  | [d1, d2, d3, d4, d5] => { results := [.lit (.bool true)], args := [d1, d2, d3, d4, d5] }
  | _ => none }
def ivalSameRow : OpenClaim := { program := "ytcfhajnboamnnabgreatdoor", sum := "5f1a0983a96feef99beb005fc382f31a03e9c1fe919033126cbb08afc6e5f896", func := "anticline/anticlinelaw4.IvalSame", spec := "ivalSame", inPlace := ["math/bits.Add64", "math/bits.Sub64"], unfollowed := true, recurses := true, named := ["anticline/sfloat.rules"], apart := false, laid := [("anticline/sfloat.rules", laid_anticline_sfloat_rules)] }
def IvalSameSaid : Prop := ivalSameRow.holds Tryz.pinned (OpenSpec.ofChange ivalSameSpec)

/-- ITS FALSE NEIGHBOUR: 'it returns false'. Refute it at one input. -/
def ivalSameWrong : ChangeSpec := { name := "ivalSame", fn := fun _ => fun
  | [d1, d2, d3, d4, d5] => { results := [.lit (.bool false)], args := [d1, d2, d3, d4, d5] }
  | _ => none }
def IvalSameWrongFalsely : Prop := ivalSameRow.holds Tryz.pinned (OpenSpec.ofChange ivalSameWrong)

/-- 'anticlinelaw4.IvalDots': WHATEVER THE INPUT: true; the input reads as it did. -/
def ivalDotsSpec : ChangeSpec := { name := "ivalDots", fn := fun _ => fun
  | [d1, d2, d3, d4] => { results := [.lit (.bool true)], args := [d1, d2, d3, d4] }
  | _ => none }
def ivalDotsRow : OpenClaim := { program := "ytcfhajnboamnnabgreatdoor", sum := "5f1a0983a96feef99beb005fc382f31a03e9c1fe919033126cbb08afc6e5f896", func := "anticline/anticlinelaw4.IvalDots", spec := "ivalDots", inPlace := ["math/bits.Add64", "math/bits.Sub64"], unfollowed := true, recurses := true, named := ["anticline/sfloat.rules"], apart := false, laid := [("anticline/sfloat.rules", laid_anticline_sfloat_rules)] }
def IvalDotsSaid : Prop := ivalDotsRow.holds Tryz.pinned (OpenSpec.ofChange ivalDotsSpec)

/-- ITS FALSE NEIGHBOUR: 'it returns false'. Refute it at one input. -/
def ivalDotsWrong : ChangeSpec := { name := "ivalDots", fn := fun _ => fun
  | [d1, d2, d3, d4] => { results := [.lit (.bool false)], args := [d1, d2, d3, d4] }
  | _ => none }
def IvalDotsWrongFalsely : Prop := ivalDotsRow.holds Tryz.pinned (OpenSpec.ofChange ivalDotsWrong)

/- THE SECOND FORM. 'bulk': how many values and letters a reading holds, each counted each time it is reached (what is shared counts as often as it is met; a slice's spare places count too). A statement '..UptoSaid' is the law's where the arguments, and the package variables that the reading takes, are together of bulk at most 1048576: NARROWER than '..Said'. Prove '..Said' where nothing that the law and all that it calls make is longer than what came in: it says more and counts as full. Else prove '..UptoSaid'. A law counts once. -/
mutual
def uptoBulk {H : Type} : DataW H → Nat
  | .lit (.string bytes) => bytes.length + 1
  | .lit _ => 1
  | .nil => 1
  | .ptr d => uptoBulk d + 1
  | .slice elems spare => uptoBulkAll elems + uptoBulkAll spare + 1
  | .agg parts => uptoBulkAll parts + 1
  | .iface _ d => uptoBulk d + 1
  | .map entries => uptoBulkEntries entries + 1
  | .held _ => 1
def uptoBulkAll {H : Type} : List (DataW H) → Nat
  | [] => 0
  | d :: r => uptoBulk d + uptoBulkAll r
def uptoBulkEntries {H : Type} : List (Lit × DataW H) → Nat
  | [] => 0
  | x :: r => uptoBulkEntry x + uptoBulkEntries r
def uptoBulkEntry {H : Type} : Lit × DataW H → Nat
  | (.string bytes, d) => bytes.length + uptoBulk d + 1
  | (_, d) => uptoBulk d + 1
 end
def uptoSmall : (H : Type) → List (DataW H) → Bool := fun _ ds => decide (uptoBulkAll ds ≤ 1048576)
def OpenSpec.upto (s : _root_.Go.ChangeSpec) : _root_.Go.OpenSpec := { _root_.Go.OpenSpec.ofChange s with cond := some uptoSmall }

/-- 'anticlinelaw4.IvalOps', WHERE WHAT IT READS IS OF BULK AT MOST 1048576: true; the input reads as it did. -/
def ivalOpsUptoRow : OpenClaim := { program := "ytcfhajnboamnnabgreatdoor", sum := "5f1a0983a96feef99beb005fc382f31a03e9c1fe919033126cbb08afc6e5f896", func := "anticline/anticlinelaw4.IvalOps", spec := "ivalOps", inPlace := ["math/bits.Add64", "math/bits.Sub64"], unfollowed := true, recurses := true, named := ["anticline/sfloat.rules", "math/bits.divideError", "math/bits.overflowError"], apart := false, laid := [("anticline/sfloat.rules", laid_anticline_sfloat_rules)], narrowed := true }
def IvalOpsUptoSaid : Prop := ivalOpsUptoRow.holds Tryz.pinned (OpenSpec.upto ivalOpsSpec)

/-- 'anticlinelaw4.IvalHolds', WHERE WHAT IT READS IS OF BULK AT MOST 1048576: true; the input reads as it did. -/
def ivalHoldsUptoRow : OpenClaim := { program := "ytcfhajnboamnnabgreatdoor", sum := "5f1a0983a96feef99beb005fc382f31a03e9c1fe919033126cbb08afc6e5f896", func := "anticline/anticlinelaw4.IvalHolds", spec := "ivalHolds", inPlace := ["math/bits.Add64", "math/bits.Sub64"], unfollowed := true, recurses := true, named := ["anticline/sfloat.rules", "math/bits.divideError", "math/bits.overflowError"], apart := false, laid := [("anticline/sfloat.rules", laid_anticline_sfloat_rules)], narrowed := true }
def IvalHoldsUptoSaid : Prop := ivalHoldsUptoRow.holds Tryz.pinned (OpenSpec.upto ivalHoldsSpec)

/-- 'anticlinelaw4.IvalWider', WHERE WHAT IT READS IS OF BULK AT MOST 1048576: true; the input reads as it did. -/
def ivalWiderUptoRow : OpenClaim := { program := "ytcfhajnboamnnabgreatdoor", sum := "5f1a0983a96feef99beb005fc382f31a03e9c1fe919033126cbb08afc6e5f896", func := "anticline/anticlinelaw4.IvalWider", spec := "ivalWider", inPlace := ["math/bits.Add64", "math/bits.Sub64"], unfollowed := true, recurses := true, named := ["anticline/sfloat.rules"], apart := false, laid := [("anticline/sfloat.rules", laid_anticline_sfloat_rules)], narrowed := true }
def IvalWiderUptoSaid : Prop := ivalWiderUptoRow.holds Tryz.pinned (OpenSpec.upto ivalWiderSpec)

/-- 'anticlinelaw4.IvalSame', WHERE WHAT IT READS IS OF BULK AT MOST 1048576: true; the input reads as it did. -/
def ivalSameUptoRow : OpenClaim := { program := "ytcfhajnboamnnabgreatdoor", sum := "5f1a0983a96feef99beb005fc382f31a03e9c1fe919033126cbb08afc6e5f896", func := "anticline/anticlinelaw4.IvalSame", spec := "ivalSame", inPlace := ["math/bits.Add64", "math/bits.Sub64"], unfollowed := true, recurses := true, named := ["anticline/sfloat.rules"], apart := false, laid := [("anticline/sfloat.rules", laid_anticline_sfloat_rules)], narrowed := true }
def IvalSameUptoSaid : Prop := ivalSameUptoRow.holds Tryz.pinned (OpenSpec.upto ivalSameSpec)

/-- 'anticlinelaw4.IvalDots', WHERE WHAT IT READS IS OF BULK AT MOST 1048576: true; the input reads as it did. -/
def ivalDotsUptoRow : OpenClaim := { program := "ytcfhajnboamnnabgreatdoor", sum := "5f1a0983a96feef99beb005fc382f31a03e9c1fe919033126cbb08afc6e5f896", func := "anticline/anticlinelaw4.IvalDots", spec := "ivalDots", inPlace := ["math/bits.Add64", "math/bits.Sub64"], unfollowed := true, recurses := true, named := ["anticline/sfloat.rules"], apart := false, laid := [("anticline/sfloat.rules", laid_anticline_sfloat_rules)], narrowed := true }
def IvalDotsUptoSaid : Prop := ivalDotsUptoRow.holds Tryz.pinned (OpenSpec.upto ivalDotsSpec)

end Rows
end Go.Proofs.YtcfhajnboamnnabGreatDoor
