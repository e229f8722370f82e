/- A reader of closed calls: regions, code, calls. -/
/- A reader of closed calls: operations in a row, code, calls are what they say. -/
import Derived.Test.YtcfhajnboamnnabGreatDoorXEV7
namespace Go.Ev
open Go.RowKit
set_option linter.unusedVariables false
set_option linter.unusedSimpArgs false

section

/-- What a call answers: its value, what it leaves in memory, how many numbers are given. -/
abbrev CallF := FuncId → List (A1) → Tr (Bk) → Nat → Option (AV × Dl × Nat)

def argsA (ev : Operand → Option (AV)) : List Operand → Option (List (A1))
  | [] => some []
  | x :: r => match ev x, argsA ev r with
    | some (.v x), some r => some (x :: r)
    | _, _ => none

def callOp (call : CallF) (ev : Operand → Option (AV)) (S : Tr (Bk)) (n : Nat) (f : Operand) (args : List Operand) : Option (AV × Dl × Nat) :=
  match ev f, argsA ev args with
  | some (.v (.one (.lit (.func (.func g) first captured)))), some xs => match ofV1s first.toList, ofV1s captured.toList with
    | some fs, some cs => call g (fs ++ (xs ++ cs)) S n
    | _, _ => none
  | _, _ => none

def opA (P : Program) (sc : Bool) (call : CallF) (ev : Operand → Option (AV)) (S : Tr (Bk)) (n : Nat) (o : Oper) : Option (AV × Dl × Nat) :=
  match o.op with
  | .call c => match c.callee with
    | .value f => match callOp call ev S n f c.args.toList with
      | some r => some r
      | none => (litOp P ev o).map fun av => (av, [], n)
    | .builtin .append => writeOp P sc ev S n o
    | .builtin .copy => writeOp P sc ev S n o
    | .builtin .clear => writeOp P sc ev S n o
    | _ => (stillOp P ev S o).map fun av => (av, [], n)
  | .alloc _ => writeOp P sc ev S n o
  | .box _ _ => writeOp P sc ev S n o
  | .buildSlice _ _ _ => writeOp P sc ev S n o
  | .makeSlice _ _ _ => writeOp P sc ev S n o
  | .store _ _ _ => writeOp P sc ev S n o
  | _ => (stillOp P ev S o).map fun av => (av, [], n)

/-- The numbers, of those that were given, that stand for something else now. -/
def overs (n : Nat) : Dl → List Nat
  | [] => []
  | (b, _) :: r => bif Nat.ble (b + 1) n then b :: overs n r else overs n r

structure St where
  T : Tr (AV)
  S : Tr (Bk)
  n : Nat
  ov : List Nat

def putT (sz : Nat) (T : Tr (AV)) (dst : Option Tmp) (av : AV) : Option (Tr (AV)) :=
  match dst with
  | none => some T
  | some d => bif Nat.ble (d + 1) sz then some (T.put d (some av)) else none

def wantedA (all : Array Oper) (ev : Operand → Option (AV)) (o : Oper) : Option Bool :=
  match o.guard with
  | none => some true
  | some (j, want) => match (all[j]?).bind (·.dst) with
    | none => some false
    | some t => match ev (.tmp t) with
      | some (.v (.one (.lit (.bool b)))) => some (b == want)
      | some (.tup []) => some false
      | _ => none

abbrev OpF := (Operand → Option (AV)) → Tr (Bk) → Nat → Oper → Option (AV × Dl × Nat)

def seqOps (opf : OpF) (sz : Nat) (all : Array Oper) : List Oper → St → Option (St)
  | [], st => some st
  | o :: r, st => match wantedA all (evO st.T) o with
    | some true => match opf (evO st.T) st.S st.n o with
      | some (av, dl, n') => match putT sz st.T o.dst av with
        | some T => seqOps opf sz all r ⟨T, puts st.S dl, n', overs st.n dl ++ st.ov⟩
        | none => none
      | none => none
    | some false => match putT sz st.T o.dst (.tup []) with
      | some T => seqOps opf sz all r ⟨T, st.S, st.n, st.ov⟩
      | none => none
    | none => none

/-! ### Regions that draw their order -/
structure Rs where
  av : AV
  dl : Dl
  ns : Nat
  mask : Nat
  U : Tr (Bk)

/-- Memory behind the operations that L names, in their order. -/
def stL (S : Tr (Bk)) (L : Nat → Bool) : Nat → List (Rs) → Tr (Bk)
  | _, [] => S
  | i, r :: rs => stL (bif L i then puts S r.dl else S) L (i + 1) rs

def maskEdges (rs : List (Rs)) : List Edge → Nat
  | [] => 0
  | e :: es => bif Region.binds .any e then (2 ^ e.on ||| (match rs[e.on]? with | some r => r.mask | none => 0)) ||| maskEdges rs es else maskEdges rs es

/-- Does an operation look at memory? -/
def usesMem : Op → Bool
  | .load .. => true
  | .store .. => true
  | .call _ => true
  | .convert .. => true
  | _ => false

/-- What of memory an operation looks at. -/
def memOf (ev : Operand → Option (AV)) (o : Op) (U : Tr Bk) : Tr Bk :=
  match o with
  | .load _ x => match ev x with
    | some (.v (.one (.ptr b _))) => Tr.e.put b (U.get b)
    | _ => U
  | .store _ x _ => match ev x with
    | some (.v (.one (.ptr b _))) => Tr.e.put b (U.get b)
    | _ => U
  | .convert _ _ x => match ev x with
    | some (.v (.one (.slc b _ _ _))) => Tr.e.put b (U.get b)
    | _ => .e
  | _ => U
/-- Does the operation at i wait for the one at j, which stands ahead of it? -/
def laterB (all : Array Oper) (j i : Nat) : Bool := Nat.ble (j + 1) i && (match all[i]? with
  | some o => o.after.toList.any fun e => Region.binds .any e && Nat.beq e.on j
  | none => false)
def badT (all : Array Oper) (dsts : List (Nat × Nat)) (j m t : Nat) : Bool := dsts.any fun (d, i) => Nat.beq d t && (!(Nat.testBit m i) && !(laterB all j i))

def evD (all : Array Oper) (T : Tr (AV)) (dsts : List (Nat × Nat)) (j m : Nat) : Operand → Option (AV)
  | .tmp t => bif badT all dsts j m t then none else some ((T.get t).getD (.tup []))
  | x => evO T x

def badD (dsts : List (Nat × Nat)) (m j : Nat) : Option Nat → Bool
  | none => false
  | some t => dsts.any fun (d, i) => Nat.beq d t && (Nat.ble (i + 1) j && !(Nat.testBit m i))

def edgesLt (j : Nat) (es : List Edge) : Bool := es.all fun e => !Region.binds .any e || Nat.ble (e.on + 1) j

/-- What an operation leaves lies below the numbers given, and what it turned it has seen. -/
def okDl (U : Tr Bk) (ns n' : Nat) (dl : Dl) : Bool := (dl.all fun p => Nat.ble (p.1 + 1) n') && ((overs ns dl).all fun b => match U.get b with | some _ => true | none => false)

/-- The operations one by one, each upon what surely stands ahead of it. -/
def drawGo (opf : OpF) (sz : Nat) (all : Array Oper) (dsts : List (Nat × Nat)) (S0 : Tr (Bk)) : List Oper → Nat → Tr (AV) → Nat → List (Rs) → Option (Tr (AV) × Nat × List (Rs))
  | [], _, T, n, acc => some (T, n, acc)
  | o :: r, j, T, n, acc =>
    let es := o.after.toList
    let m := maskEdges acc es
    bif edgesLt j es && !badD dsts m j o.dst then
      let ev := evD all T dsts j m
      let U := memOf ev o.op (bif usesMem o.op then stL S0 (Nat.testBit m) 0 acc else .e)
      match wantedA all ev o with
      | some true => match opf ev U n o with
        | some (av, dl, n') => bif okDl U n n' dl then
            match putT sz T o.dst av with
            | some T' => drawGo opf sz all dsts S0 r (j + 1) T' n' (acc ++ [⟨av, dl, n, m, U⟩])
            | none => none
          else none
        | none => none
      | some false => match putT sz T o.dst (.tup []) with
        | some T' => drawGo opf sz all dsts S0 r (j + 1) T' n (acc ++ [⟨.tup [], [], n, m, .e⟩])
        | none => none
      | none => none
    else none

/-! The same, what is asked often kept in trees. -/
def dstsTr : List (Nat × Nat) → Tr (List Nat)
  | [] => .e
  | (d, i) :: r => (dstsTr r).put d (some (i :: ((dstsTr r).get d).getD []))

def badTT (all : Array Oper) (DT : Tr (List Nat)) (j m t : Nat) : Bool := match DT.get t with
  | some l => l.any fun i => !(Nat.testBit m i) && !(laterB all j i)
  | none => false

def badDT (DT : Tr (List Nat)) (m j : Nat) : Option Nat → Bool
  | none => false
  | some t => match DT.get t with
    | some l => l.any fun i => Nat.ble (i + 1) j && !(Nat.testBit m i)
    | none => false

def evDT (all : Array Oper) (T : Tr AV) (DT : Tr (List Nat)) (j m : Nat) : Operand → Option AV
  | .tmp t => bif badTT all DT j m t then none else some ((T.get t).getD (.tup []))
  | x => evO T x

def maskT (mt : Tr Nat) : List Edge → Nat
  | [] => 0
  | e :: es => bif Region.binds .any e then (2 ^ e.on ||| (mt.get e.on).getD 0) ||| maskT mt es else maskT mt es

def stLR (S : Tr Bk) (L : Nat → Bool) : List (Nat × Dl) → Tr Bk
  | [] => S
  | (i, dl) :: r => bif L i then puts (stLR S L r) dl else stLR S L r

def addDl (j : Nat) (dl : Dl) (dls : List (Nat × Dl)) : List (Nat × Dl) := match dl with
  | [] => dls
  | x :: r => (j, x :: r) :: dls

def drawGoF (opf : OpF) (sz : Nat) (all : Array Oper) (DT : Tr (List Nat)) (S0 : Tr Bk) : List Oper → Nat → Tr AV → Nat → List Rs → Tr Nat → List (Nat × Dl) → Option (Tr AV × Nat × List Rs)
  | [], _, T, n, racc, _, _ => some (T, n, racc.reverse)
  | o :: r, j, T, n, racc, mt, dls =>
    let es := o.after.toList
    let m := maskT mt es
    bif edgesLt j es && !badDT DT m j o.dst then
      let ev := evDT all T DT j m
      let U := memOf ev o.op (bif usesMem o.op then stLR S0 (Nat.testBit m) dls else .e)
      match wantedA all ev o with
      | some true => match opf ev U n o with
        | some (av, dl, n') => bif okDl U n n' dl then
            match putT sz T o.dst av with
            | some T' => drawGoF opf sz all DT S0 r (j + 1) T' n' (⟨av, dl, n, m, U⟩ :: racc) (mt.put j (some m)) (addDl j dl dls)
            | none => none
          else none
        | none => none
      | some false => match putT sz T o.dst (.tup []) with
        | some T' => drawGoF opf sz all DT S0 r (j + 1) T' n (⟨.tup [], [], n, m, .e⟩ :: racc) (mt.put j (some m)) dls
        | none => none
      | none => none
    else none

def unseen (bs : List Nat) (U : Tr (Bk)) : Bool := bs.all fun b => match U.get b with | none => true | some _ => false

/-- r stands at i, the others behind it: what is not ordered does not meet. -/
def apartFrom (r : Rs) (i : Nat) : List (Rs) → Bool
  | [] => true
  | q :: qs => (Nat.testBit q.mask i || (unseen (overs r.ns r.dl) q.U && unseen (overs q.ns q.dl) r.U)) && apartFrom r i qs

def apartAll : Nat → List (Rs) → Bool
  | _, [] => true
  | i, r :: rs => apartFrom r i rs && apartAll (i + 1) rs

def dstsOf (ops : List Oper) : List (Nat × Nat) := (ops.zipIdx).filterMap fun (o, i) => o.dst.map fun d => (d, i)

def oversAll : List (Rs) → List Nat
  | [] => []
  | r :: rs => overs r.ns r.dl ++ oversAll rs

def drawOps (opf : OpF) (sz : Nat) (ops : Array Oper) (st : St) : Option (St) :=
  match drawGoF opf sz ops (dstsTr (dstsOf ops.toList)) st.S ops.toList 0 st.T st.n [] .e [] with
  | some (T, n, rs) => bif apartAll 0 rs then some ⟨T, stL st.S (fun _ => true) 0 rs, n, oversAll rs ++ st.ov⟩ else none
  | none => none

/-! ### Code -/
inductive AX where
  | normal
  | exit (id : Nat)
  | ret

def boolA : Option (AV) → Option Bool
  | some (.v (.one (.lit (.bool b)))) => some b
  | _ => none

def loopA (body : St → Option (AX × St)) : Nat → St → Option (AX × St)
  | 0, _ => none
  | k + 1, st => match body st with
    | some (.normal, st) => loopA body k st
    | r => r

def codeA (opf : OpF) (sz : Nat) (rec : Code → St → Option (AX × St)) (c : Code) (st : St) : Option (AX × St) :=
  match c with
  | .skip => some (.normal, st)
  | .label _ => some (.normal, st)
  | .ret => some (.ret, st)
  | .exit id => some (.exit id, st)
  | .region _ ops draw => bif draw then (drawOps opf sz ops st).map fun st => (.normal, st) else (seqOps opf sz ops ops.toList st).map fun st => (.normal, st)
  | .seq a b => match rec a st with
    | some (.normal, st) => rec b st
    | r => r
  | .cond c a b => match boolA (evO st.T c) with
    | some t => bif t then rec a st else rec b st
    | none => none
  | .block id a => match rec a st with
    | some (.exit i, st) => bif Nat.beq i id then some (.normal, st) else some (.exit i, st)
    | r => r
  | .loop a => loopA (rec a) 1000000 st
  | _ => none

/-! ### Calls -/
def refs : List (AC) → List Nat
  | [] => []
  | .ptr b _ :: r => b :: refs r
  | .slc b _ _ _ :: r => b :: refs r
  | _ :: r => refs r

def refs1 : List (A1) → List Nat
  | [] => []
  | x :: r => refs x.cells ++ refs1 r

def AV.refs : AV → List Nat
  | .v x => Ev.refs x.cells
  | .tup xs => refs1 xs

def reach (S : Tr (Bk)) (n : Nat) : Nat → List Nat → Tr Unit → Dl → Dl
  | 0, _, _, acc => acc
  | _ + 1, [], _, acc => acc
  | f + 1, b :: r, seen, acc =>
    bif Nat.ble (b + 1) n then reach S n f r seen acc
    else match seen.get b with
      | some _ => reach S n f r seen acc
      | none => match S.get b with
        | none => reach S n f r seen acc
        | some k => reach S n f (refs k.cells ++ r) (seen.put b (some ())) ((b, some k) :: acc)

def oldRefs (S : Tr (Bk)) : List Nat → List Nat
  | [] => []
  | b :: r => (match S.get b with | some k => refs k.cells | none => []) ++ oldRefs S r

def below (n : Nat) : List Nat → List Nat
  | [] => []
  | b :: r => bif Nat.ble (b + 1) n then b :: below n r else below n r

def callDl (S : Tr (Bk)) (n : Nat) (ov : List Nat) (av : AV) : Dl :=
  let old := below n ov
  (old.map fun b => (b, S.get b)) ++ reach S n 100000 (av.refs ++ oldRefs S old) .e []

def resultA (P : Program) (T : Tr (AV)) (S : Tr (Bk)) : List ResultVar → Option (List (A1))
  | [] => some []
  | .tmp t :: r => match (T.get t).getD (.tup []), resultA P T S r with
    | .v x, some xs => some (x :: xs)
    | _, _ => none
  | .cell a ty :: r => match (T.get a).getD (.tup []), resultA P T S r with
    | .v (.one (.ptr b off)), some xs => match loadA P S ty b off with
      | some (.v x) => some (x :: xs)
      | _ => none
    | _, _ => none

def results1 : List (A1) → AV
  | [x] => .v x
  | xs => .tup xs

def argsT : Nat → List (A1) → Tr (AV) → Tr (AV)
  | _, [], T => T
  | i, x :: xs, T => argsT (i + 1) xs (T.put i (some (.v x)))

structure Cx where
  P : Program
  strict : Bool
  tab : FuncId → Option Func
  orc : CallF
  /-- What is known of an operation that is not read. -/
  hook : OpF

def noHook : OpF := fun _ _ _ _ => none
def opH (opf hook : OpF) : OpF := fun ev S n o => match opf ev S n o with
  | some r => some r
  | none => hook ev S n o

def callA (cx : Cx) (rec : Nat → Code → St → Option (AX × St)) : CallF := fun f args S n =>
  match cx.tab f with
  | none => none
  | some fn => match cx.orc f args S n with
    | some r => some r
    | none => match fn.body with
      | none => none
      | some c =>
        match rec (args.length + (fn.ntmps - args.length)) c ⟨argsT 0 args .e, S, n, []⟩ with
        | some (.exit _, _) => none
        | some (_, st) => match resultA cx.P st.T st.S fn.results.toList with
          | some xs => let av := results1 xs; some (av, callDl st.S n st.ov av, st.n)
          | none => none
        | none => none

def evalCode (cx : Cx) : Nat → Nat → Code → St → Option (AX × St)
  | 0, _, _, _ => none
  | k + 1, sz, c, st => codeA (opH (opA cx.P cx.strict (callA cx (evalCode cx k))) cx.hook) sz (evalCode cx k sz) c st

def evalCall (cx : Cx) (k : Nat) : CallF := callA cx (evalCode cx k)
end
end Go.Ev

namespace Go.Ev
open Go.RowKit
set_option linter.unusedVariables false
set_option linter.unusedSimpArgs false

def lastOf : Dl → Nat → Option (Option Bk)
  | [], _ => none
  | (b', k) :: r, b => match lastOf r b with
    | some x => some x
    | none => if b = b' then some k else none

theorem get_puts : ∀ (dl : Dl) (S : Tr Bk) (b : Nat), (puts S dl).get b = (lastOf dl b).getD (S.get b)
  | [], S, b => rfl
  | (b', k) :: r, S, b => by
    rw [puts, get_puts r, lastOf, Tr.get_put]
    cases lastOf r b with
    | some x => rfl
    | none => split <;> simp_all

theorem mem_overs {n b : Nat} : ∀ {dl : Dl}, lastOf dl b ≠ none → b < n → b ∈ overs n dl
  | [], h, _ => absurd rfl h
  | (b', k) :: r, h, hn => by
    have ih := mem_overs (n := n) (b := b) (dl := r)
    unfold overs
    rw [lastOf] at h
    by_cases hr : lastOf r b = none
    · rw [hr] at h
      simp only at h
      have hb : b = b' := by
        by_cases e : b = b'
        · exact e
        · rw [if_neg e] at h; exact absurd rfl h
      subst hb
      have : Nat.ble (b + 1) n = true := by rw [Nat.ble_eq]; exact hn
      rw [this]
      simp
    · have := ih hr hn
      cases Nat.ble (b' + 1) n <;> simp [this]

theorem puts_same {S : Tr Bk} {dl : Dl} {n b : Nat} (hb : b < n) (h : b ∉ overs n dl) : (puts S dl).get b = S.get b := by
  rw [get_puts]
  cases hl : lastOf dl b with
  | none => rfl
  | some x => exact absurd (mem_overs (by rw [hl]; simp) hb) h

section
variable {M : Dom} {B : Nat} {P : Program} {ρ ρ' : Env} {w w' : World} {S : Tr Bk} {n n' : Nat}

def EnterOK (P : Program) (f : FuncId) : Prop := ∀ args w, (callFunc f args).run P w = .ok (.enter f args) w

def CallOK (M : Dom) (B : Nat) (P : Program) (call : CallF) : Prop := ∀ f xs S n av dl n', call f xs S n = some (av, dl, n') →
  EnterOK P f ∧ ∀ ρ w vs, SRel M B ρ w S → B ≤ w.heap.size → (∀ {b k}, S.get b = some k → b < n) → Free ρ n n' → rel1s M ρ w xs vs →
    Calls P f vs.toArray w fun e w' => ∃ v ρ', e = .returned v ∧ av.rel M ρ' w' v ∧ Tn M B ρ w S n ρ' w' (puts S dl) n'

theorem rel1s.append {cs cs' : List A1} : ∀ {us us' : List Value}, rel1s M ρ w cs us → rel1s M ρ w cs' us' → rel1s M ρ w (cs ++ cs') (us ++ us') := by
  induction cs with
  | nil => intro us us' h h'; cases us with | nil => exact h' | cons u us => exact h.elim
  | cons c cs ih =>
    intro us us' h h'
    cases us with
    | nil => exact h.elim
    | cons u us => exact ⟨h.1, ih h.2 h'⟩

theorem argsA_ok {ev : Operand → Option AV} {ρa : Operand → Value} (he : EvRel M ρ w ev ρa) : ∀ {xs : List Operand} {ys : List A1}, argsA ev xs = some ys → rel1s M ρ w ys (xs.map ρa)
  | [], ys, h => by simp [argsA] at h; subst h; trivial
  | x :: r, ys, h => by
    unfold argsA at h
    split at h
    · rename_i y ys' hx hr
      obtain rfl := Option.some.inj h
      exact ⟨he _ _ hx, argsA_ok he hr⟩
    · cases h

theorem still_wp {ev : Operand → Option AV} {a : Act} {o : Oper} {av : AV} {dl : Dl} (he : EvRel M ρ w ev a.eval) (hS : SRel M B ρ w S) (hk : ∀ {b k}, S.get b = some k → b < n)
    (h : (stillOp P ev S o).map (fun av => (av, ([] : Dl), n)) = some (av, dl, n')) {next : Act → World → Prop} {Q : Exit → Act → World → Prop}
    (hn : ∀ v w' ρ', av.rel M ρ' w' v → Tn M B ρ w S n ρ' w' (puts S dl) n' → next (a.put o.dst v) w') : o.wp P a w next Q := by
  simp only [Option.map_eq_some_iff, Prod.mk.injEq] at h
  obtain ⟨av', h, rfl, rfl, rfl⟩ := h
  obtain ⟨v, hv, hr⟩ := stillOp_ok hS he h
  unfold Oper.wp
  rw [hv]
  exact hn v w ρ hr (Tn.refl hS n hk)

theorem write_wp {ev : Operand → Option AV} {a : Act} {o : Oper} {av : AV} {dl : Dl} (he : EvRel M ρ w ev a.eval) (hS : SRel M B ρ w S) (hB : B ≤ w.heap.size) (hk : ∀ {b k}, S.get b = some k → b < n) (hf : Free ρ n n')
    (h : writeOp P M.strict ev S n o = some (av, dl, n')) {next : Act → World → Prop} {Q : Exit → Act → World → Prop}
    (hn : ∀ v w' ρ', av.rel M ρ' w' v → Tn M B ρ w S n ρ' w' (puts S dl) n' → next (a.put o.dst v) w') : o.wp P a w next Q := by
  obtain ⟨x, v, w', ρ', hx, hnx, hr, hT⟩ := writeOp_ok he hS hB hk h hf
  unfold Oper.wp
  rw [hx]
  rcases hnx with rfl | ⟨rfl, rfl⟩
  · exact hn v w' ρ' hr hT
  · exact hn undef w' ρ' hr hT

theorem call_wp {call : CallF} (hc : CallOK M B P call) {ev : Operand → Option AV} {a : Act} {o : Oper} {c : Call} {f : Operand} {av : AV} {dl : Dl} (hop : o.op = .call c) (hcc : c.callee = .value f)
    (he : EvRel M ρ w ev a.eval) (hS : SRel M B ρ w S) (hB : B ≤ w.heap.size) (hk : ∀ {b k}, S.get b = some k → b < n) (hf : Free ρ n n')
    (h : callOp call ev S n f c.args.toList = some (av, dl, n')) {next : Act → World → Prop} {Q : Exit → Act → World → Prop}
    (hn : ∀ v w' ρ', av.rel M ρ' w' v → Tn M B ρ w S n ρ' w' (puts S dl) n' → next (a.put o.dst v) w') : o.wp P a w next Q := by
  unfold callOp at h
  split at h
  · rename_i g first captured xs hg hx
    split at h
    · rename_i fs cs hfs hcs
      obtain ⟨hen, hcall⟩ := hc _ _ _ _ _ _ _ h
      have hg' : a.eval f = .func (.func g) first captured := (he _ _ hg).1
      have hxs : rel1s M ρ w (fs ++ (xs ++ cs)) (first.toList ++ (c.args.toList.map a.eval ++ captured.toList)) := (ofV1s_rel hfs).append ((argsA_ok he hx).append (ofV1s_rel hcs))
      have hrun : (execOp a.eval o).run P w = .ok (.enter g (first ++ c.args.map a.eval ++ captured)) w := by
        unfold execOp
        rw [hop]
        simp only [resolve, hcc, hg', Deferred.ofValue, Sem.run_bind, Sem.run_pure, Result.andThen_ok, invoke]
        exact hen _ w
      unfold Oper.wp
      rw [hrun]
      have hC := hcall ρ w _ hS hB hk hf hxs
      rw [show (first.toList ++ (c.args.toList.map a.eval ++ captured.toList)).toArray = first ++ c.args.map a.eval ++ captured by apply Array.ext'; simp] at hC
      refine Calls.mono hC ?_
      rintro e w' ⟨v, ρ', rfl, hr, hT⟩
      exact hn v w' ρ' hr hT
    · cases h
  · cases h

theorem opA_wp {call : CallF} (hc : CallOK M B P call) {ev : Operand → Option AV} {a : Act} {o : Oper} {av : AV} {dl : Dl} (he : EvRel M ρ w ev a.eval) (hS : SRel M B ρ w S) (hB : B ≤ w.heap.size)
    (hk : ∀ {b k}, S.get b = some k → b < n) (hf : Free ρ n n') (h : opA P M.strict call ev S n o = some (av, dl, n')) {next : Act → World → Prop} {Q : Exit → Act → World → Prop}
    (hn : ∀ v w' ρ', av.rel M ρ' w' v → Tn M B ρ w S n ρ' w' (puts S dl) n' → next (a.put o.dst v) w') : o.wp P a w next Q := by
  unfold opA at h
  split at h
  · rename_i c hop
    split at h
    · rename_i f hcc
      split at h
      · rename_i r hr
        obtain rfl := Option.some.inj h
        exact call_wp hc hop hcc he hS hB hk hf hr hn
      · simp only [Option.map_eq_some_iff, Prod.mk.injEq] at h
        obtain ⟨av', h, rfl, rfl, rfl⟩ := h
        obtain ⟨v, hv, hr⟩ := litOp_ok (w := w) he h
        unfold Oper.wp
        rw [hv]
        exact hn v w ρ hr (Tn.refl hS n hk)
    · exact write_wp he hS hB hk hf h hn
    · exact write_wp he hS hB hk hf h hn
    · exact write_wp he hS hB hk hf h hn
    · exact still_wp he hS hk h hn
  · exact write_wp he hS hB hk hf h hn
  · exact write_wp he hS hB hk hf h hn
  · exact write_wp he hS hB hk hf h hn
  · exact write_wp he hS hB hk hf h hn
  · exact write_wp he hS hB hk hf h hn
  · exact still_wp he hS hk h hn

/-- What opf says of an operation is so. -/
def OpOK (M : Dom) (B : Nat) (P : Program) (opf : OpF) : Prop := ∀ {ρ : Env} {w : World} {S : Tr Bk} {n n' : Nat} {ev : Operand → Option AV} {a : Act} {o : Oper} {av : AV} {dl : Dl},
  EvRel M ρ w ev a.eval → SRel M B ρ w S → B ≤ w.heap.size → (∀ {b k}, S.get b = some k → b < n) → Free ρ n n' → opf ev S n o = some (av, dl, n') →
  ∀ {next : Act → World → Prop} {Q : Exit → Act → World → Prop}, (∀ v w' ρ', av.rel M ρ' w' v → Tn M B ρ w S n ρ' w' (puts S dl) n' → next (a.put o.dst v) w') → o.wp P a w next Q
/-- The numbers only grow. -/
def OpLe (opf : OpF) : Prop := ∀ {S : Tr Bk} {n n' : Nat} {ev : Operand → Option AV} {o : Oper} {av : AV} {dl : Dl}, opf ev S n o = some (av, dl, n') → n ≤ n'

structure StRel (M : Dom) (B : Nat) (ρ : Env) (w : World) (st : St) (sz : Nat) (a : Act) : Prop where
  T : ∀ t, ((st.T.get t).getD (.tup [])).rel M ρ w (a.tmps.getD t undef)
  size : a.tmps.size = sz
  defers : a.defers = []
  S : SRel M B ρ w st.S
  hB : B ≤ w.heap.size
  keys : ∀ {b k}, st.S.get b = some k → b < st.n

structure Stp (M : Dom) (B : Nat) (ρ : Env) (w : World) (st : St) (ρ' : Env) (w' : World) (st' : St) : Prop where
  tn : Tn M B ρ w st.S st.n ρ' w' st'.S st'.n
  ov : ∀ b, b ∈ st.ov → b ∈ st'.ov
  same : ∀ b, b < st.n → b ∉ st'.ov → st'.S.get b = st.S.get b

theorem Stp.refl {st : St} (h : SRel M B ρ w st.S) (hk : ∀ {b k}, st.S.get b = some k → b < st.n) : Stp M B ρ w st ρ w st := ⟨Tn.refl h _ hk, fun _ h => h, fun _ _ _ => rfl⟩
theorem Stp.trans {ρ'' : Env} {w'' : World} {st st' st'' : St} (h : Stp M B ρ w st ρ' w' st') (k : Stp M B ρ' w' st' ρ'' w'' st'') : Stp M B ρ w st ρ'' w'' st'' :=
  ⟨h.tn.trans k.tn, fun b hb => k.ov b (h.ov b hb), fun b hb hn => by
    rw [k.same b (Nat.lt_of_lt_of_le hb h.tn.le) hn, h.same b hb (fun hh => hn (k.ov b hh))]⟩

theorem evO_rel {T : Tr AV} {a : Act} (h : ∀ t, ((T.get t).getD (.tup [])).rel M ρ w (a.tmps.getD t undef)) : EvRel M ρ w (evO T) a.eval := by
  intro x av hx
  cases x with
  | tmp t => simp only [evO, Option.some.injEq] at hx; subst hx; exact h t
  | const v => exact ofValue_rel hx
  | global g => simp only [evO, Option.some.injEq] at hx; subst hx; exact ⟨rfl, rfl⟩
  | func f => simp only [evO, Option.some.injEq] at hx; subst hx; exact ⟨rfl, rfl⟩

theorem putT_ok {sz : Nat} {T T' : Tr AV} {dst : Option Tmp} {av : AV} {a : Act} {v : Value} (hs : a.tmps.size = sz) (h : putT sz T dst av = some T') (hT : ∀ t, ((T.get t).getD (.tup [])).rel M ρ w (a.tmps.getD t undef)) (hv : av.rel M ρ w v) :
    (∀ t, ((T'.get t).getD (.tup [])).rel M ρ w ((a.put dst v).tmps.getD t undef)) ∧ (a.put dst v).tmps.size = sz := by
  unfold putT at h
  cases dst with
  | none => simp only [Option.some.injEq] at h; subst h; exact ⟨hT, hs⟩
  | some d =>
    simp only at h
    cases hc : Nat.ble (d + 1) sz with
    | false => rw [hc] at h; simp at h
    | true =>
      rw [hc] at h
      simp only [cond_true, Option.some.injEq] at h
      subst h
      have hlt : d < a.tmps.size := by rw [hs]; exact Nat.le_of_ble_eq_true hc
      refine ⟨fun t => ?_, by simpa [Act.put] using hs⟩
      rw [Tr.get_put]
      by_cases e : t = d
      · subst e
        rw [if_pos rfl]
        simp only [Option.getD_some, Act.put]
        rw [Array.getD_eq_getD_getElem?, Array.getElem?_setIfInBounds_self_of_lt hlt]
        exact hv
      · rw [if_neg e]
        have := hT t
        simp only [Act.put]
        rw [Array.getD_eq_getD_getElem?, Array.getElem?_setIfInBounds_ne (Ne.symm e), ← Array.getD_eq_getD_getElem?]
        exact this

theorem put_defers (a : Act) (dst : Option Tmp) (v : Value) : (a.put dst v).defers = a.defers := by cases dst <;> rfl

/-- What is asked of an operation's guard. -/
theorem wantedA_ok {all : Array Oper} {ev : Operand → Option AV} {a : Act} {o : Oper} {b : Bool} (he : EvRel M ρ w ev a.eval) (h : wantedA all ev o = some b) : Region.wanted o (yielded all a.tmps) = b := by
  unfold wantedA at h
  unfold Region.wanted
  split at h
  · rename_i hg; rw [hg]; exact Option.some.inj h
  · rename_i j want hg
    rw [hg]
    simp only
    unfold yielded
    split at h
    · rename_i hd
      rw [hd]
      simpa using h
    · rename_i t hd
      rw [hd]
      simp only [Option.bind_some]
      split at h
      · rename_i b' hx
        have hr : a.eval (.tmp t) = .bool b' := (he _ _ hx).1
        have hr' : a.tmps[t]? = some (.bool b') := by
          simp only [Act.eval, Array.getD_eq_getD_getElem?] at hr
          cases ht : a.tmps[t]? with
          | none => rw [ht] at hr; simp [undef] at hr
          | some v => rw [ht] at hr; simpa using hr
        rw [hr']
        simpa using h
      · rename_i hx
        have hr : a.eval (.tmp t) = .tuple #[] := by
          obtain ⟨us, h1, h2⟩ := he _ _ hx
          cases us with
          | nil => exact h1
          | cons u us => exact h2.elim
        simp only [Act.eval, Array.getD_eq_getD_getElem?] at hr
        cases ht : a.tmps[t]? with
        | none => simpa using h
        | some v => rw [ht] at hr; simp only [Option.getD_some] at hr; subst hr; simpa using h
      · cases h

theorem seqOps_le {opf : OpF} (hle : OpLe opf) {sz : Nat} {all : Array Oper} : ∀ {l : List Oper} {st st' : St}, seqOps opf sz all l st = some st' → st.n ≤ st'.n
  | [], st, st', h => by simp only [seqOps, Option.some.injEq] at h; subst h; exact Nat.le_refl _
  | o :: r, st, st', h => by
    unfold seqOps at h
    split at h
    · split at h
      · rename_i av dl n' hop
        split at h
        · exact Nat.le_trans (hle hop) (seqOps_le hle h)
        · cases h
      · cases h
    · split at h
      · have := seqOps_le hle h; exact this
      · cases h
    · cases h

theorem seqOps_wp {opf : OpF} (hok : OpOK M B P opf) (hle : OpLe opf) {sz : Nat} {all : Array Oper} {Q : Exit → Act → World → Prop} : ∀ {l : List Oper} {st st' : St} {ρ : Env} {w : World} {a : Act}, seqOps opf sz all l st = some st' → StRel M B ρ w st sz a → Free ρ st.n st'.n →
    (∀ ρ' w' a', StRel M B ρ' w' st' sz a' → Stp M B ρ w st ρ' w' st' → Q .normal a' w') → wpList P all Q l a w
  | [], st, st', ρ, w, a, h, hst, hf, hq => by
    simp only [seqOps, Option.some.injEq] at h
    subst h
    exact hq ρ w a hst (Stp.refl hst.S hst.keys)
  | o :: r, st, st', ρ, w, a, h, hst, hf, hq => by
    have he := evO_rel hst.T
    unfold seqOps at h
    unfold wpList
    split at h
    · rename_i hw
      rw [if_pos (wantedA_ok he hw)]
      split at h
      · rename_i av dl n' hop
        split at h
        · rename_i T' hT'
          have hn1 := hle hop
          have hn2 := seqOps_le hle h
          simp only at hn2
          refine .inl (hok he hst.S hst.hB hst.keys (hf.sub (Nat.le_refl _) hn2) hop fun v w' ρ' hr hT => ?_)
          have up := hT.up (hf.sub (Nat.le_refl _) hn2)
          obtain ⟨hT2, hs2⟩ := putT_ok hst.size hT' (fun t => (hst.T t).mono up hT.fr.kept) hr
          have hstp : Stp M B ρ w st ρ' w' ⟨T', puts st.S dl, n', overs st.n dl ++ st.ov⟩ :=
            ⟨hT, fun b hb => by simp [hb], fun b hb hnb => puts_same hb (by simp at hnb; exact hnb.1)⟩
          refine seqOps_wp hok hle h ⟨hT2, hs2, by rw [put_defers]; exact hst.defers, hT.rel, Nat.le_trans hst.hB hT.fr.kept.size, hT.keys⟩ (hT.free (hf.sub hn1 (Nat.le_refl _)) (.inr (Nat.le_refl _))) ?_
          intro ρ2 w2 a2 hst2 hstp2
          exact hq ρ2 w2 a2 hst2 (hstp.trans hstp2)
        · cases h
      · cases h
    · rename_i hw
      rw [if_neg (by rw [wantedA_ok he hw]; simp)]
      split at h
      · rename_i T' hT'
        obtain ⟨hT2, hs2⟩ := putT_ok (v := undef) hst.size hT' hst.T ⟨[], rfl, trivial⟩
        exact seqOps_wp hok hle h ⟨hT2, hs2, by rw [put_defers]; exact hst.defers, hst.S, hst.hB, hst.keys⟩ hf (fun ρ2 w2 a2 h1 h2 => hq ρ2 w2 a2 h1 ⟨h2.tn, h2.ov, h2.same⟩)
      · cases h
    · cases h
end
end Go.Ev
