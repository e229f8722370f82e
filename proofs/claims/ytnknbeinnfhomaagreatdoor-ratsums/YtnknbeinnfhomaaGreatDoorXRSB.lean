/- RatSums: what is told of its letters. -/
import Derived.Test.YtnknbeinnfhomaaGreatDoorXEVZ
namespace Go.Proofs.YtnknbeinnfhomaaGreatDoor
open Go.RowKit Go.Ev
set_option linter.unusedVariables false
set_option linter.unusedSimpArgs false

/-- Sums, differences, products. -/
def rsBin : Nat → RE → RE → Option RE
  | 0, .v 0, .v 1 => some (.v 10)
  | 1, .v 0, .v 1 => some (.v 11)
  | 2, .v 0, .v 1 => some (.v 12)
  | 0, .v 2, .v 3 => some (.v 14)
  | 1, .v 2, .v 3 => some (.v 15)
  | 2, .v 2, .v 3 => some (.v 16)
  | 0, .v 0, .v 0 => some (.v 18)
  | 1, .v 0, .v 0 => some (.c 0 1)
  | 2, .v 0, .v 0 => some (.v 20)
  | 0, .c 0 1, .v 1 => some (.v 1)
  | 1, .c 0 1, .v 1 => some (.v 23)
  | 2, .c 0 1, .v 1 => some (.c 0 1)
  | 0, .v 0, .c 0 1 => some (.v 0)
  | 1, .v 0, .c 0 1 => some (.v 0)
  | 2, .v 0, .c 0 1 => some (.c 0 1)
  | 1, .c 0 1, .v 0 => some (.v 30)
  | 1, .c 0 1, .v 2 => some (.v 31)
  | 1, .c 0 1, .v 3 => some (.v 32)
  | 0, .v 0, .v 23 => some (.v 11)
  | 0, .v 2, .v 32 => some (.v 15)
  | 0, .v 0, .v 30 => some (.c 0 1)
  | 0, .c 0 1, .v 23 => some (.v 23)
  | _, _, _ => none
def rsQuo (z0 z1 z3 : Bool) : RE → RE → Option RE
  | .v 0, .v 1 => bif z1 then none else some (.v 13)
  | .v 2, .v 3 => bif z3 then none else some (.v 17)
  | .v 0, .v 0 => bif z0 then none else some (.c 1 1)
  | .c 0 1, .v 1 => bif z1 then none else some (.c 0 1)
  | _, _ => none
def rsSame (z0 z1 z3 : Bool) : RE → RE → Option Bool
  | .v 0, .c 0 1 => some z0
  | .v 1, .c 0 1 => some z1
  | .v 3, .c 0 1 => some z3
  | .c 0 1, .c 0 1 => some true
  | _, _ => none
def rsCmp : RE → RE → Option Int
  | .v 0, .v 0 => some 0
  | _, _ => none
def rsAbs : RE → Option RE
  | .v 0 => some (.v 33)
  | .v 2 => some (.v 34)
  | _ => none
def rsSameS : RE → RE → Option Nat
  | .v 0, .v 1 => some 100
  | .v 2, .v 3 => some 101
  | .c 0 1, .v 1 => some 102
  | _, _ => none
def rsCmpS : RE → RE → Option Nat
  | .v 0, .v 1 => some 110
  | .v 2, .v 3 => some 111
  | .c 0 1, .v 1 => some 112
  | .v 0, .c 0 1 => some 113
  | _, _ => none
def rsD (z0 z1 z3 : Bool) : QD := ⟨rsBin, rsQuo z0 z1 z3, rsSame z0 z1 z3, rsCmp, fun _ => false, rsAbs, rsSameS, rsCmpS⟩
def rsBo (i : Nat) : Bool := Nat.ble 100 i && Nat.ble i 102

/-- What is told of what is called. -/
def rsL (z0 z1 z3 : Bool) : List (FuncId × Ans) :=
  [(4, ansTrue), (5, ansRaw2 [(0, 0), (3, 1)]), (6, ansSmall 6 2 7 3),
   (18, ansBin (rsD z0 z1 z3) 0), (20, ansBin (rsD z0 z1 z3) 1), (22, ansBin (rsD z0 z1 z3) 2), (8, ansQuo (rsD z0 z1 z3)), (10, ansSame (rsD z0 z1 z3)), (12, ansCmp (rsD z0 z1 z3)),
   (14, ansNeg (rsD z0 z1 z3)), (16, ansAbs (rsD z0 z1 z3)),
   (7, ansConst (.c 0 1)), (19, ansBin (rsD z0 z1 z3) 0), (23, ansBin (rsD z0 z1 z3) 2), (9, ansQuo (rsD z0 z1 z3)), (11, ansSame (rsD z0 z1 z3)),
   (13, ansCmp (rsD z0 z1 z3)), (15, ansNeg (rsD z0 z1 z3)), (17, ansAbs (rsD z0 z1 z3))]
def rsIo (i : Nat) : Bool := Nat.ble 110 i && Nat.ble i 113
def rsHook (P : Program) : OpF := opH (bigHook P true) (eqHook P rsBo rsIo)
end Go.Proofs.YtnknbeinnfhomaaGreatDoor
