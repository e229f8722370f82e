/- A reader of closed calls: regions, code, calls. -/
import Derived.Test.YtcccejhkblnonaaGreatXEV7
namespace Go.Ev
open Go.RowKit
set_option linter.unusedVariables false
set_option linter.unusedSimpArgs false

section

/-- What a call answers: its value, what it leaves in memory, how many numbers are given. -/
abbrev CallF := FuncId → List (A1) → Tr (Bk) → Nat → Option (AV × Dl × Nat)

def argsA (ev : Operand → Option (AV)) : List Operand → Option (List (A1))
  | [] => some []
  | x :: r => match ev x, argsA ev r with
    | some (.v x), some r => some (x :: r)
    | _, _ => none

def callOp (call : CallF) (ev : Operand → Option (AV)) (S : Tr (Bk)) (n : Nat) (f : Operand) (args : List Operand) : Option (AV × Dl × Nat) :=
  match ev f, argsA ev args with
  | some (.v (.one (.lit (.func (.func g) first captured)))), some xs => match ofV1s first.toList, ofV1s captured.toList with
    | some fs, some cs => call g (fs ++ (xs ++ cs)) S n
    | _, _ => none
  | _, _ => none

def opA (P : Program) (sc : Bool) (call : CallF) (ev : Operand → Option (AV)) (S : Tr (Bk)) (n : Nat) (o : Oper) : Option (AV × Dl × Nat) :=
  match o.op with
  | .call c => match c.callee with
    | .value f => match callOp call ev S n f c.args.toList with
      | some r => some r
      | none => (litOp P ev o).map fun av => (av, [], n)
    | .builtin .append => writeOp P sc ev S n o
    | .builtin .copy => writeOp P sc ev S n o
    | .builtin .clear => writeOp P sc ev S n o
    | _ => (stillOp P ev S o).map fun av => (av, [], n)
  | .alloc _ => writeOp P sc ev S n o
  | .box _ _ => writeOp P sc ev S n o
  | .buildSlice _ _ _ => writeOp P sc ev S n o
  | .makeSlice _ _ _ => writeOp P sc ev S n o
  | .store _ _ _ => writeOp P sc ev S n o
  | _ => (stillOp P ev S o).map fun av => (av, [], n)

/-- The numbers, of those that were given, that stand for something else now. -/
def overs (n : Nat) : Dl → List Nat
  | [] => []
  | (b, _) :: r => bif Nat.ble (b + 1) n then b :: overs n r else overs n r

structure St where
  T : Tr (AV)
  S : Tr (Bk)
  n : Nat
  ov : List Nat

def putT (sz : Nat) (T : Tr (AV)) (dst : Option Tmp) (av : AV) : Option (Tr (AV)) :=
  match dst with
  | none => some T
  | some d => bif Nat.ble (d + 1) sz then some (T.put d (some av)) else none

def wantedA (all : Array Oper) (ev : Operand → Option (AV)) (o : Oper) : Option Bool :=
  match o.guard with
  | none => some true
  | some (j, want) => match (all[j]?).bind (·.dst) with
    | none => some false
    | some t => match ev (.tmp t) with
      | some (.v (.one (.lit (.bool b)))) => some (b == want)
      | some (.tup []) => some false
      | _ => none

abbrev OpF := (Operand → Option (AV)) → Tr (Bk) → Nat → Oper → Option (AV × Dl × Nat)

def seqOps (opf : OpF) (sz : Nat) (all : Array Oper) : List Oper → St → Option (St)
  | [], st => some st
  | o :: r, st => match wantedA all (evO st.T) o with
    | some true => match opf (evO st.T) st.S st.n o with
      | some (av, dl, n') => match putT sz st.T o.dst av with
        | some T => seqOps opf sz all r ⟨T, puts st.S dl, n', overs st.n dl ++ st.ov⟩
        | none => none
      | none => none
    | some false => match putT sz st.T o.dst (.tup []) with
      | some T => seqOps opf sz all r ⟨T, st.S, st.n, st.ov⟩
      | none => none
    | none => none

/-! ### Regions that draw their order -/
structure Rs where
  av : AV
  dl : Dl
  ns : Nat
  mask : Nat
  U : Tr (Bk)

/-- Memory behind the operations that L names, in their order. -/
def stL (S : Tr (Bk)) (L : Nat → Bool) : Nat → List (Rs) → Tr (Bk)
  | _, [] => S
  | i, r :: rs => stL (bif L i then puts S r.dl else S) L (i + 1) rs

def maskEdges (rs : List (Rs)) : List Edge → Nat
  | [] => 0
  | e :: es => bif Region.binds .any e then (2 ^ e.on ||| (match rs[e.on]? with | some r => r.mask | none => 0)) ||| maskEdges rs es else maskEdges rs es

/-- Does an operation look at memory? -/
def usesMem : Op → Bool
  | .load .. => true
  | .store .. => true
  | .call _ => true
  | .convert .. => true
  | _ => false

/-- What of memory an operation looks at. -/
def memOf (ev : Operand → Option (AV)) (o : Op) (U : Tr Bk) : Tr Bk :=
  match o with
  | .load _ x => match ev x with
    | some (.v (.one (.ptr b _))) => Tr.e.put b (U.get b)
    | _ => U
  | .store _ x _ => match ev x with
    | some (.v (.one (.ptr b _))) => Tr.e.put b (U.get b)
    | _ => U
  | .convert _ _ x => match ev x with
    | some (.v (.one (.slc b _ _ _))) => Tr.e.put b (U.get b)
    | _ => .e
  | _ => U
def badT (dsts : List (Nat × Nat)) (m t : Nat) : Bool := dsts.any fun (d, i) => Nat.beq d t && !(Nat.testBit m i)

def evD (T : Tr (AV)) (dsts : List (Nat × Nat)) (m : Nat) : Operand → Option (AV)
  | .tmp t => bif badT dsts m t then none else some ((T.get t).getD (.tup []))
  | x => evO T x

def badD (dsts : List (Nat × Nat)) (m j : Nat) : Option Nat → Bool
  | none => false
  | some t => dsts.any fun (d, i) => Nat.beq d t && (Nat.ble (i + 1) j && !(Nat.testBit m i))

def edgesLt (j : Nat) (es : List Edge) : Bool := es.all fun e => !Region.binds .any e || Nat.ble (e.on + 1) j

/-- What an operation leaves lies below the numbers given, and what it turned it has seen. -/
def okDl (U : Tr Bk) (ns n' : Nat) (dl : Dl) : Bool := (dl.all fun p => Nat.ble (p.1 + 1) n') && ((overs ns dl).all fun b => match U.get b with | some _ => true | none => false)

/-- The operations one by one, each upon what surely stands ahead of it. -/
def drawGo (opf : OpF) (sz : Nat) (all : Array Oper) (dsts : List (Nat × Nat)) (S0 : Tr (Bk)) : List Oper → Nat → Tr (AV) → Nat → List (Rs) → Option (Tr (AV) × Nat × List (Rs))
  | [], _, T, n, acc => some (T, n, acc)
  | o :: r, j, T, n, acc =>
    let es := o.after.toList
    let m := maskEdges acc es
    bif edgesLt j es && !badD dsts m j o.dst then
      let ev := evD T dsts m
      let U := memOf ev o.op (bif usesMem o.op then stL S0 (Nat.testBit m) 0 acc else .e)
      match wantedA all ev o with
      | some true => match opf ev U n o with
        | some (av, dl, n') => bif okDl U n n' dl then
            match putT sz T o.dst av with
            | some T' => drawGo opf sz all dsts S0 r (j + 1) T' n' (acc ++ [⟨av, dl, n, m, U⟩])
            | none => none
          else none
        | none => none
      | some false => match putT sz T o.dst (.tup []) with
        | some T' => drawGo opf sz all dsts S0 r (j + 1) T' n (acc ++ [⟨.tup [], [], n, m, .e⟩])
        | none => none
      | none => none
    else none

/-! The same, what is asked often kept in trees. -/
def dstsTr : List (Nat × Nat) → Tr (List Nat)
  | [] => .e
  | (d, i) :: r => (dstsTr r).put d (some (i :: ((dstsTr r).get d).getD []))

def badTT (DT : Tr (List Nat)) (m t : Nat) : Bool := match DT.get t with
  | some l => l.any fun i => !(Nat.testBit m i)
  | none => false

def badDT (DT : Tr (List Nat)) (m j : Nat) : Option Nat → Bool
  | none => false
  | some t => match DT.get t with
    | some l => l.any fun i => Nat.ble (i + 1) j && !(Nat.testBit m i)
    | none => false

def evDT (T : Tr AV) (DT : Tr (List Nat)) (m : Nat) : Operand → Option AV
  | .tmp t => bif badTT DT m t then none else some ((T.get t).getD (.tup []))
  | x => evO T x

def maskT (mt : Tr Nat) : List Edge → Nat
  | [] => 0
  | e :: es => bif Region.binds .any e then (2 ^ e.on ||| (mt.get e.on).getD 0) ||| maskT mt es else maskT mt es

def stLR (S : Tr Bk) (L : Nat → Bool) : List (Nat × Dl) → Tr Bk
  | [] => S
  | (i, dl) :: r => bif L i then puts (stLR S L r) dl else stLR S L r

def addDl (j : Nat) (dl : Dl) (dls : List (Nat × Dl)) : List (Nat × Dl) := match dl with
  | [] => dls
  | x :: r => (j, x :: r) :: dls

def drawGoF (opf : OpF) (sz : Nat) (all : Array Oper) (DT : Tr (List Nat)) (S0 : Tr Bk) : List Oper → Nat → Tr AV → Nat → List Rs → Tr Nat → List (Nat × Dl) → Option (Tr AV × Nat × List Rs)
  | [], _, T, n, racc, _, _ => some (T, n, racc.reverse)
  | o :: r, j, T, n, racc, mt, dls =>
    let es := o.after.toList
    let m := maskT mt es
    bif edgesLt j es && !badDT DT m j o.dst then
      let ev := evDT T DT m
      let U := memOf ev o.op (bif usesMem o.op then stLR S0 (Nat.testBit m) dls else .e)
      match wantedA all ev o with
      | some true => match opf ev U n o with
        | some (av, dl, n') => bif okDl U n n' dl then
            match putT sz T o.dst av with
            | some T' => drawGoF opf sz all DT S0 r (j + 1) T' n' (⟨av, dl, n, m, U⟩ :: racc) (mt.put j (some m)) (addDl j dl dls)
            | none => none
          else none
        | none => none
      | some false => match putT sz T o.dst (.tup []) with
        | some T' => drawGoF opf sz all DT S0 r (j + 1) T' n (⟨.tup [], [], n, m, .e⟩ :: racc) (mt.put j (some m)) dls
        | none => none
      | none => none
    else none

def unseen (bs : List Nat) (U : Tr (Bk)) : Bool := bs.all fun b => match U.get b with | none => true | some _ => false

/-- r stands at i, the others behind it: what is not ordered does not meet. -/
def apartFrom (r : Rs) (i : Nat) : List (Rs) → Bool
  | [] => true
  | q :: qs => (Nat.testBit q.mask i || (unseen (overs r.ns r.dl) q.U && unseen (overs q.ns q.dl) r.U)) && apartFrom r i qs

def apartAll : Nat → List (Rs) → Bool
  | _, [] => true
  | i, r :: rs => apartFrom r i rs && apartAll (i + 1) rs

def dstsOf (ops : List Oper) : List (Nat × Nat) := (ops.zipIdx).filterMap fun (o, i) => o.dst.map fun d => (d, i)

def oversAll : List (Rs) → List Nat
  | [] => []
  | r :: rs => overs r.ns r.dl ++ oversAll rs

def drawOps (opf : OpF) (sz : Nat) (ops : Array Oper) (st : St) : Option (St) :=
  match drawGoF opf sz ops (dstsTr (dstsOf ops.toList)) st.S ops.toList 0 st.T st.n [] .e [] with
  | some (T, n, rs) => bif apartAll 0 rs then some ⟨T, stL st.S (fun _ => true) 0 rs, n, oversAll rs ++ st.ov⟩ else none
  | none => none

/-! ### Code -/
inductive AX where
  | normal
  | exit (id : Nat)
  | ret

def boolA : Option (AV) → Option Bool
  | some (.v (.one (.lit (.bool b)))) => some b
  | _ => none

def loopA (body : St → Option (AX × St)) : Nat → St → Option (AX × St)
  | 0, _ => none
  | k + 1, st => match body st with
    | some (.normal, st) => loopA body k st
    | r => r

def codeA (opf : OpF) (sz : Nat) (rec : Code → St → Option (AX × St)) (c : Code) (st : St) : Option (AX × St) :=
  match c with
  | .skip => some (.normal, st)
  | .label _ => some (.normal, st)
  | .ret => some (.ret, st)
  | .exit id => some (.exit id, st)
  | .region _ ops draw => bif draw then (drawOps opf sz ops st).map fun st => (.normal, st) else (seqOps opf sz ops ops.toList st).map fun st => (.normal, st)
  | .seq a b => match rec a st with
    | some (.normal, st) => rec b st
    | r => r
  | .cond c a b => match boolA (evO st.T c) with
    | some t => bif t then rec a st else rec b st
    | none => none
  | .block id a => match rec a st with
    | some (.exit i, st) => bif Nat.beq i id then some (.normal, st) else some (.exit i, st)
    | r => r
  | .loop a => loopA (rec a) 1000000 st
  | _ => none

/-! ### Calls -/
def refs : List (AC) → List Nat
  | [] => []
  | .ptr b _ :: r => b :: refs r
  | .slc b _ _ _ :: r => b :: refs r
  | _ :: r => refs r

def refs1 : List (A1) → List Nat
  | [] => []
  | x :: r => refs x.cells ++ refs1 r

def AV.refs : AV → List Nat
  | .v x => Ev.refs x.cells
  | .tup xs => refs1 xs

def reach (S : Tr (Bk)) (n : Nat) : Nat → List Nat → Tr Unit → Dl → Dl
  | 0, _, _, acc => acc
  | _ + 1, [], _, acc => acc
  | f + 1, b :: r, seen, acc =>
    bif Nat.ble (b + 1) n then reach S n f r seen acc
    else match seen.get b with
      | some _ => reach S n f r seen acc
      | none => match S.get b with
        | none => reach S n f r seen acc
        | some k => reach S n f (refs k.cells ++ r) (seen.put b (some ())) ((b, some k) :: acc)

def oldRefs (S : Tr (Bk)) : List Nat → List Nat
  | [] => []
  | b :: r => (match S.get b with | some k => refs k.cells | none => []) ++ oldRefs S r

def below (n : Nat) : List Nat → List Nat
  | [] => []
  | b :: r => bif Nat.ble (b + 1) n then b :: below n r else below n r

def callDl (S : Tr (Bk)) (n : Nat) (ov : List Nat) (av : AV) : Dl :=
  let old := below n ov
  (old.map fun b => (b, S.get b)) ++ reach S n 100000 (av.refs ++ oldRefs S old) .e []

def resultA (P : Program) (T : Tr (AV)) (S : Tr (Bk)) : List ResultVar → Option (List (A1))
  | [] => some []
  | .tmp t :: r => match (T.get t).getD (.tup []), resultA P T S r with
    | .v x, some xs => some (x :: xs)
    | _, _ => none
  | .cell a ty :: r => match (T.get a).getD (.tup []), resultA P T S r with
    | .v (.one (.ptr b off)), some xs => match loadA P S ty b off with
      | some (.v x) => some (x :: xs)
      | _ => none
    | _, _ => none

def results1 : List (A1) → AV
  | [x] => .v x
  | xs => .tup xs

def argsT : Nat → List (A1) → Tr (AV) → Tr (AV)
  | _, [], T => T
  | i, x :: xs, T => argsT (i + 1) xs (T.put i (some (.v x)))

structure Cx where
  P : Program
  strict : Bool
  tab : FuncId → Option Func
  orc : CallF
  /-- What is known of an operation that is not read. -/
  hook : OpF

def noHook : OpF := fun _ _ _ _ => none
def opH (opf hook : OpF) : OpF := fun ev S n o => match opf ev S n o with
  | some r => some r
  | none => hook ev S n o

def callA (cx : Cx) (rec : Nat → Code → St → Option (AX × St)) : CallF := fun f args S n =>
  match cx.tab f with
  | none => none
  | some fn => match cx.orc f args S n with
    | some r => some r
    | none => match fn.body with
      | none => none
      | some c =>
        match rec (args.length + (fn.ntmps - args.length)) c ⟨argsT 0 args .e, S, n, []⟩ with
        | some (.exit _, _) => none
        | some (_, st) => match resultA cx.P st.T st.S fn.results.toList with
          | some xs => let av := results1 xs; some (av, callDl st.S n st.ov av, st.n)
          | none => none
        | none => none

def evalCode (cx : Cx) : Nat → Nat → Code → St → Option (AX × St)
  | 0, _, _, _ => none
  | k + 1, sz, c, st => codeA (opH (opA cx.P cx.strict (callA cx (evalCode cx k))) cx.hook) sz (evalCode cx k sz) c st

def evalCall (cx : Cx) (k : Nat) : CallF := callA cx (evalCode cx k)
end
end Go.Ev
