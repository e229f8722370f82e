/- The reader upon letters by tables: answers of functions, operations upon letters. -/
import Derived.Test.YtcfhajnboamnnaaDoorYXEVW
namespace Go.Proofs.YtcfhajnboamnnaaDoor
open Go.RowKit Go.Ev
set_option linter.unusedVariables false
set_option linter.unusedSimpArgs false

def litB : Value → Value → Bool
  | .bool a, .bool b => a == b
  | .int k a, .int l b => sameKind k l && eqI a b
  | _, _ => false
theorem litB_ok {u v : Value} (h : litB u v = true) : u = v := by
  unfold litB at h
  split at h
  · rw [eq_of_beq h]
  · simp only [Bool.and_eq_true] at h
    rw [eqI_eq] at h
    rw [sameKind_eq h.1, eq_of_beq h.2]
  · cases h
def atB : At → At → Bool
  | .sym i, .sym j => Nat.beq i j
  | .neg p, .neg q => reB p q
  | .num p, .num q => reB p q
  | .den p, .den q => reB p q
  | _, _ => false
theorem atB_ok {d e : At} (h : atB d e = true) : d = e := by
  unfold atB at h
  split at h
  · rw [Nat.eq_of_beq_eq_true h]
  · rw [reB_ok h]
  · rw [reB_ok h]
  · rw [reB_ok h]
  · cases h
def acB : AC → AC → Bool
  | .lit u, .lit v => litB u v
  | .atom d, .atom e => atB d e
  | _, _ => false
theorem acB_ok {c d : AC} (h : acB c d = true) : c = d := by
  unfold acB at h
  split at h
  · rw [litB_ok h]
  · rw [atB_ok h]
  · cases h
def acsB : List AC → List AC → Bool
  | [], [] => true
  | c :: cs, d :: ds => acB c d && acsB cs ds
  | _, _ => false
theorem acsB_ok : ∀ {cs ds : List AC}, acsB cs ds = true → cs = ds
  | [], [], _ => rfl
  | c :: cs, d :: ds, h => by
    simp only [acsB, Bool.and_eq_true] at h
    rw [acB_ok h.1, acsB_ok h.2]
  | [], _ :: _, h => by cases h
  | _ :: _, [], h => by cases h
def a1B : A1 → A1 → Bool
  | .one c, .one d => acB c d
  | .agg cs, .agg ds => acsB cs ds
  | _, _ => false
theorem a1B_ok {c d : A1} (h : a1B c d = true) : c = d := by
  unfold a1B at h
  split at h
  · rw [acB_ok h]
  · rw [acsB_ok h]
  · cases h
def a1sB : List A1 → List A1 → Bool
  | [], [] => true
  | c :: cs, d :: ds => a1B c d && a1sB cs ds
  | _, _ => false
theorem a1sB_ok : ∀ {cs ds : List A1}, a1sB cs ds = true → cs = ds
  | [], [], _ => rfl
  | c :: cs, d :: ds, h => by
    simp only [a1sB, Bool.and_eq_true] at h
    rw [a1B_ok h.1, a1sB_ok h.2]
  | [], _ :: _, h => by cases h
  | _ :: _, [], h => by cases h

/-! ### Answers by a table -/
def lookT : List (List A1 × AV) → List A1 → Option AV
  | [], _ => none
  | e :: r, args => bif a1sB e.1 args then some e.2 else lookT r args
def ansT (l : List (List A1 × AV)) : Ans := fun args _ => lookT l args
/-- What a function answers, once. -/
structure Ent (M : Dom) (f : FuncId) where
  args : List A1
  ans : AV
  ok : ∀ {B : Nat} {ρ : Env} {w : World} {S : Tr Bk} {vs : List Value}, SRel M B ρ w S → rel1s M ρ w args vs → Calls Tryd.prog f vs.toArray w fun e w' => ∃ v, e = .returned v ∧ ans.rel M ρ w' v ∧ Below w.heap.size w w'
def entsT {M : Dom} {f : FuncId} (l : List (Ent M f)) : List (List A1 × AV) := l.map fun e => (e.args, e.ans)
theorem lookT_ents {M : Dom} {f : FuncId} {args : List A1} {av : AV} : ∀ {l : List (Ent M f)}, lookT (entsT l) args = some av → ∃ e : Ent M f, e.args = args ∧ e.ans = av
  | [], h => by cases h
  | e :: r, h => by
    simp only [entsT, List.map_cons, lookT] at h
    cases hb : a1sB e.args args with
    | true => rw [hb] at h; exact ⟨e, a1sB_ok hb, Option.some.inj h⟩
    | false => rw [hb] at h; exact lookT_ents (l := r) h
def orcT {M : Dom} (f : FuncId) (l : List (Ent M f)) : OrcS Tryd.prog M where
  f := f
  ans := ansT (entsT l)
  ok := by
    intro args S av ha B ρ w vs hS hr
    obtain ⟨e, rfl, rfl⟩ := lookT_ents ha
    exact e.ok hS hr

/-! ### Operations by a table -/
def opCode : BinOp → Nat
  | .add => 0 | .sub => 1 | .mul => 2 | .quo => 3 | .rem => 4 | .and => 5 | .or => 6 | .xor => 7 | .shl => 8 | .shr => 9 | .andNot => 10
  | .eql => 11 | .neq => 12 | .lss => 13 | .leq => 14 | .gtr => 15 | .geq => 16
theorem opCode_ok {a b : BinOp} (h : Nat.beq (opCode a) (opCode b) = true) : a = b := by
  have := Nat.eq_of_beq_eq_true h
  cases a <;> cases b <;> first | rfl | (revert this; decide)
abbrev BT := List (BinOp × AC × AC × AC)
def lookB : BT → BinOp → AC → AC → Option AC
  | [], _, _, _ => none
  | e :: r, b, c, d => bif Nat.beq (opCode e.1) (opCode b) && (acB e.2.1 c && acB e.2.2.1 d) then some e.2.2.2 else lookB r b c d
theorem lookB_ok {b : BinOp} {c d x : AC} : ∀ {l : BT}, lookB l b c d = some x → (b, c, d, x) ∈ l
  | [], h => by cases h
  | e :: r, h => by
    simp only [lookB] at h
    cases hb : Nat.beq (opCode e.1) (opCode b) && (acB e.2.1 c && acB e.2.2.1 d) with
    | true =>
      rw [hb] at h
      simp only [Bool.and_eq_true] at hb
      obtain ⟨e1, e2, e3, e4⟩ := e
      obtain rfl := opCode_ok hb.1
      obtain rfl := acB_ok hb.2.1
      obtain rfl := acB_ok hb.2.2
      obtain rfl := Option.some.inj h
      exact List.mem_cons_self
    | false => rw [hb] at h; exact List.mem_cons_of_mem _ (lookB_ok (l := r) h)
/-- Operations of two; the greater of two. -/
def tabHook (l m : BT) : OpF := fun ev S n o => match o.op with
  | .binOp b t x y _ => match ev x, ev y with
    | some (.v (.one c)), some (.v (.one d)) => match lookB l b c d with
      | some r => some (.v (.one r), [], n)
      | none => none
    | _, _ => none
  | .call c => match c.callee, c.args.toList with
    | .builtin .max, [x, y] => match ev x, ev y with
      | some (.v (.one c)), some (.v (.one d)) => match lookB m .add c d with
        | some r => some (.v (.one r), [], n)
        | none => none
      | _, _ => none
    | _, _ => none
  | _ => none
theorem tabHook_le (l m : BT) : OpLe (tabHook l m) := by
  intro S n n' ev o av dl h
  unfold tabHook at h
  repeat' split at h
  all_goals first
    | (cases h; done)
    | (simp only [Option.some.injEq, Prod.mk.injEq] at h; obtain ⟨_, _, rfl⟩ := h; exact Nat.le_refl _)
/-- What a cell is, if it is written out or a letter. -/
def acV (σ : SymD) : AC → Value
  | .lit v => v
  | .atom (.sym i) => σ.val i
  | _ => undef
def isPl : AC → Bool
  | .lit (.bool _) => true
  | .lit (.int _ _) => true
  | .atom (.sym _) => true
  | _ => false
theorem acV_rel {st : Bool} {ν : Nat → Rat} {σ : SymD} {γ : Nat → Option (List Value)} {ρ : Env} {w : World} {c : AC} {u : Value} (hp : isPl c = true) (h : c.rel (DomQ st ν σ γ) ρ w u) : u = acV σ c := by
  unfold isPl at hp
  split at hp
  · exact h.1
  · exact h.1
  · exact h.1
  · cases hp
theorem acV_put {st : Bool} {ν : Nat → Rat} {σ : SymD} {γ : Nat → Option (List Value)} {ρ : Env} {w : World} {c : AC} (hp : isPl c = true) (hf : st = true → ∀ i, c = .atom (.sym i) → σ.fact i w) : c.rel (DomQ st ν σ γ) ρ w (acV σ c) := by
  unfold isPl at hp
  split at hp
  · exact ⟨rfl, rfl⟩
  · exact ⟨rfl, rfl⟩
  · exact ⟨rfl, fun h => hf h _ rfl⟩
  · cases hp
/-- An operation's row is right. -/
def BOk (σ : SymD) (e : BinOp × AC × AC × AC) : Prop := isPl e.2.1 = true ∧ isPl e.2.2.1 = true ∧ isPl e.2.2.2 = true ∧ (∀ i, e.2.2.2 = .atom (.sym i) → ∀ w, σ.fact i w) ∧
  ∃ k x k' y, acV σ e.2.1 = .int k x ∧ acV σ e.2.2.1 = .int k' y ∧ ∀ t, binOp e.1 t (.int k x) (.int k' y) = pure (acV σ e.2.2.2)
def MOk (σ : SymD) (e : BinOp × AC × AC × AC) : Prop := isPl e.2.1 = true ∧ isPl e.2.2.1 = true ∧ isPl e.2.2.2 = true ∧ (∀ i, e.2.2.2 = .atom (.sym i) → ∀ w, σ.fact i w) ∧
  ∃ x y, acV σ e.2.1 = .int .i64 x ∧ acV σ e.2.2.1 = .int .i64 y ∧ acV σ e.2.2.2 = .int .i64 (max x y)
theorem tabHook_ok {st : Bool} {ν : Nat → Rat} {σ : SymD} {γ : Nat → Option (List Value)} {B : Nat} (P : Program) {l m : BT} (hl : ∀ e ∈ l, BOk σ e) (hm : ∀ e ∈ m, MOk σ e) : OpOK (DomQ st ν σ γ) B P (tabHook l m) := by
  intro ρ w S n n' ev a o av dl he hS hB hk hf h next Q hn
  unfold tabHook at h
  split at h
  · rename_i b t x y yt hop
    split at h
    · rename_i c d hx hy
      split at h
      · rename_i r hr
        simp only [Option.some.injEq, Prod.mk.injEq] at h
        obtain ⟨rfl, rfl, rfl⟩ := h
        obtain ⟨p1, p2, p3, pf, k, z, k', z', e1, e2, hb⟩ := hl _ (lookB_ok hr)
        have hxv : a.eval x = .int k z := (acV_rel p1 (he _ _ hx)).trans e1
        have hyv : a.eval y = .int k' z' := (acV_rel p2 (he _ _ hy)).trans e2
        have hrun : (execOp a.eval o).run P w = .ok (.value (acV σ r)) w := by
          unfold execOp
          rw [hop]
          simp only [hxv, hyv, eqGuard_ints, hb]
          rfl
        unfold Oper.wp
        rw [hrun]
        exact hn _ w ρ (acV_put p3 (fun _ i hi => pf i hi w)) (Tn.refl hS _ hk)
      · cases h
    · cases h
  · rename_i c hop
    split at h
    · rename_i x y hcc ha
      split at h
      · rename_i c1 d1 hx hy
        split at h
        · rename_i r hr
          simp only [Option.some.injEq, Prod.mk.injEq] at h
          obtain ⟨rfl, rfl, rfl⟩ := h
          obtain ⟨p1, p2, p3, pf, z, z', e1, e2, hb⟩ := hm _ (lookB_ok hr)
          have hxv : a.eval x = .int .i64 z := (acV_rel p1 (he _ _ hx)).trans e1
          have hyv : a.eval y = .int .i64 z' := (acV_rel p2 (he _ _ hy)).trans e2
          obtain ⟨callee, args, argTypes⟩ := c
          simp only at hcc ha
          subst hcc
          obtain rfl : args = #[x, y] := by cases args; simp at ha; simp [ha]
          have hb' : acV σ r = .int .i64 (if z < z' then z' else z) := by
            simp only at hb; rw [hb]; congr 1; split <;> omega
          have hrun : (execOp a.eval o).run P w = .ok (.value (acV σ r)) w := by
            unfold execOp
            rw [hop, hb']
            simp only [resolve, Sem.run_bind, Sem.run_pure, Result.andThen_ok, invoke, builtin]
            simp [Builtin.max_, Builtin.max2, hxv, hyv]
          unfold Oper.wp
          rw [hrun]
          exact hn _ w ρ (acV_put p3 (fun _ i hi => pf i hi w)) (Tn.refl hS _ hk)
        · cases h
      · cases h
    · cases h
  · cases h

/-! ### Letters by rows -/
inductive PV where
  | b (x : Bool)
  | i (x : Int)
  | u (x : Nat)
def PV.val : PV → Value
  | .b x => .bool x
  | .i x => .int .i64 x
  | .u x => .int .u64 (x : Int)
def symL (l : List PV) : SymD := ⟨fun i => (l.getD i (.i 0)).val, fun _ _ => True, fun _ h => h, fun i => by cases l.getD i (.i 0) <;> exact ⟨rfl, by simp [PV.val]⟩⟩
/-- Numbers: the first ten rational, the others natural. -/
def nuL (qs : List Rat) (ns : List Nat) (i : Nat) : Rat := if i < 10 then qs.getD i 0 else ((ns.getD (i - 10) 0 : Nat) : Rat)
theorem avQ_rv {ν : Nat → Rat} {σ : SymD} {γ : Nat → Option (List Value)} {ρ : Env} {w : World} {u : Value} {r : RE} (h : (avQ r).rel (DomQ true ν σ γ) ρ w u) : RV w u (vq ν r) := by
  obtain ⟨us, rfl, hu⟩ := h
  match us, hu with
  | [c1, c2, c3], ⟨h1, h2, h3, _⟩ =>
    obtain ⟨_, rfl⟩ : _ ∧ c1 = _ := h1
    exact ⟨c2, c3, rfl, h2.2, h3.2⟩
def avB' : AV → AV → Bool
  | .v a, .v b => a1B a b
  | .tup a, .tup b => a1sB a b
  | _, _ => false
theorem avB'_ok {a b : AV} (h : avB' a b = true) : a = b := by
  unfold avB' at h
  split at h
  · rw [a1B_ok h]
  · rw [a1sB_ok h]
  · cases h
/-- Is it this that was read? -/
def isAV (want : AV) : Option (AV × Dl × Nat) → Bool
  | some (a, _, _) => avB' a want
  | none => false
theorem isAV_ok {want : AV} {r : Option (AV × Dl × Nat)} (h : isAV want r = true) : ∃ dl n, r = some (want, dl, n) := by
  unfold isAV at h
  split at h
  · rw [avB'_ok h]; exact ⟨_, _, rfl⟩
  · cases h

/-! ### Operations upon whole numbers -/
theorem bo_sub {k : IntKind} {x y z : Int} (h : k.wrap (x - y) = z) (t : TypeId) : binOp .sub t (.int k x) (.int k y) = pure (.int k z) := by rw [binOp_sub]; subst h; rfl
theorem bo_add {k : IntKind} {x y z : Int} (h : k.wrap (x + y) = z) (t : TypeId) : binOp .add t (.int k x) (.int k y) = pure (.int k z) := by rw [binOp_add]; subst h; rfl
theorem bo_mul {k : IntKind} {x y z : Int} (h : k.wrap (x * y) = z) (t : TypeId) : binOp .mul t (.int k x) (.int k y) = pure (.int k z) := by rw [binOp_mul]; subst h; rfl
theorem bo_lss {k : IntKind} {x y : Int} {r : Bool} (h : decide (x < y) = r) (t : TypeId) : binOp .lss t (.int k x) (.int k y) = pure (.bool r) := by rw [binOp_lss]; subst h; rfl
theorem bo_leq {k : IntKind} {x y : Int} {r : Bool} (h : decide (x ≤ y) = r) (t : TypeId) : binOp .leq t (.int k x) (.int k y) = pure (.bool r) := by rw [binOp_leq]; subst h; rfl
theorem bo_gtr {k : IntKind} {x y : Int} {r : Bool} (h : decide (y < x) = r) (t : TypeId) : binOp .gtr t (.int k x) (.int k y) = pure (.bool r) := by rw [binOp_gtr]; subst h; rfl
theorem bo_geq {k : IntKind} {x y : Int} {r : Bool} (h : decide (y ≤ x) = r) (t : TypeId) : binOp .geq t (.int k x) (.int k y) = pure (.bool r) := by rw [binOp_geq]; subst h; rfl
theorem bo_eql {k : IntKind} {x y : Int} {r : Bool} (h : decide (x = y) = r) (t : TypeId) : binOp .eql t (.int k x) (.int k y) = pure (.bool r) := by rw [binOp_eql]; subst h; rfl
theorem bo_neq {k : IntKind} {x y : Int} {r : Bool} (h : decide (x = y) = !r) (t : TypeId) : binOp .neq t (.int k x) (.int k y) = pure (.bool r) := by
  rw [binOp_neq]
  have : (x != y) = !(decide (x = y)) := rfl
  rw [this, h, Bool.not_not]
theorem bo_rem2 (v : Nat) (hv : v < 18446744073709551616) (t : TypeId) : binOp .rem t (.int .u64 (v : Int)) (.int .u64 2) = pure (.int .u64 ((v % 2 : Nat) : Int)) := by
  rw [binOp_rem]
  have e : ((v : Int).tmod 2) = ((v % 2 : Nat) : Int) := by
    rw [Int.tmod_eq_emod_of_nonneg (by omega)]; omega
  have e2 : IntKind.u64.wrap ((v % 2 : Nat) : Int) = ((v % 2 : Nat) : Int) := by
    simp [IntKind.wrap, IntKind.bits, IntKind.signed]; omega
  simp [Op.intDiv, e, e2]
theorem wr64 {x : Int} (h1 : -9223372036854775808 ≤ x) (h2 : x ≤ 9223372036854775807) : IntKind.i64.wrap x = x := by simp [IntKind.wrap, IntKind.bits, IntKind.signed]; omega
theorem wrU {x : Int} (h1 : 0 ≤ x) (h2 : x < 18446744073709551616) : IntKind.u64.wrap x = x := by simp [IntKind.wrap, IntKind.bits, IntKind.signed]; omega
theorem BOk.mk {σ : SymD} {b : BinOp} {c d r : AC} (h1 : isPl c = true) (h2 : isPl d = true) (h3 : isPl r = true) (hf : ∀ i, r = .atom (.sym i) → ∀ w, σ.fact i w) {k : IntKind} {x : Int} {k' : IntKind} {y : Int}
    (e1 : acV σ c = .int k x) (e2 : acV σ d = .int k' y) (h : ∀ t, binOp b t (.int k x) (.int k' y) = pure (acV σ r)) : BOk σ (b, c, d, r) := ⟨h1, h2, h3, hf, k, x, k', y, e1, e2, h⟩
theorem all_nil {α : Type} {p : α → Prop} : ∀ e ∈ ([] : List α), p e := fun _ h => by cases h
theorem all_cons {α : Type} {p : α → Prop} {a : α} {l : List α} (h : p a) (g : ∀ e ∈ l, p e) : ∀ e ∈ a :: l, p e := fun e he => by
  rcases List.mem_cons.1 he with rfl | he
  · exact h
  · exact g e he
end Go.Proofs.YtcfhajnboamnnaaDoor
