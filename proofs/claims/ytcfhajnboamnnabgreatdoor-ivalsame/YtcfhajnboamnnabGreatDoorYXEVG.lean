/- The reader upon letters by tables: answers of functions, operations upon letters. -/
/- The third law's within, Make: answers that hang on no world. -/
import Derived.Test.YtcfhajnboamnnabGreatDoorYXEVW
import Derived.Test.YtcfhajnboamnnabGreatDoorYXF17
namespace Go.Proofs.YtcfhajnboamnnabGreatDoor
open Go.RowKit Go.Ev
set_option linter.unusedVariables false
set_option linter.unusedSimpArgs false

def litB : Value → Value → Bool
  | .bool a, .bool b => a == b
  | .int k a, .int l b => sameKind k l && eqI a b
  | _, _ => false
theorem litB_ok {u v : Value} (h : litB u v = true) : u = v := by
  unfold litB at h
  split at h
  · rw [eq_of_beq h]
  · simp only [Bool.and_eq_true] at h
    rw [eqI_eq] at h
    rw [sameKind_eq h.1, eq_of_beq h.2]
  · cases h
def atB : At → At → Bool
  | .sym i, .sym j => Nat.beq i j
  | .neg p, .neg q => reB p q
  | .num p, .num q => reB p q
  | .den p, .den q => reB p q
  | _, _ => false
theorem atB_ok {d e : At} (h : atB d e = true) : d = e := by
  unfold atB at h
  split at h
  · rw [Nat.eq_of_beq_eq_true h]
  · rw [reB_ok h]
  · rw [reB_ok h]
  · rw [reB_ok h]
  · cases h
def acB : AC → AC → Bool
  | .lit u, .lit v => litB u v
  | .atom d, .atom e => atB d e
  | _, _ => false
theorem acB_ok {c d : AC} (h : acB c d = true) : c = d := by
  unfold acB at h
  split at h
  · rw [litB_ok h]
  · rw [atB_ok h]
  · cases h
def acsB : List AC → List AC → Bool
  | [], [] => true
  | c :: cs, d :: ds => acB c d && acsB cs ds
  | _, _ => false
theorem acsB_ok : ∀ {cs ds : List AC}, acsB cs ds = true → cs = ds
  | [], [], _ => rfl
  | c :: cs, d :: ds, h => by
    simp only [acsB, Bool.and_eq_true] at h
    rw [acB_ok h.1, acsB_ok h.2]
  | [], _ :: _, h => by cases h
  | _ :: _, [], h => by cases h
def a1B : A1 → A1 → Bool
  | .one c, .one d => acB c d
  | .agg cs, .agg ds => acsB cs ds
  | _, _ => false
theorem a1B_ok {c d : A1} (h : a1B c d = true) : c = d := by
  unfold a1B at h
  split at h
  · rw [acB_ok h]
  · rw [acsB_ok h]
  · cases h
def a1sB : List A1 → List A1 → Bool
  | [], [] => true
  | c :: cs, d :: ds => a1B c d && a1sB cs ds
  | _, _ => false
theorem a1sB_ok : ∀ {cs ds : List A1}, a1sB cs ds = true → cs = ds
  | [], [], _ => rfl
  | c :: cs, d :: ds, h => by
    simp only [a1sB, Bool.and_eq_true] at h
    rw [a1B_ok h.1, a1sB_ok h.2]
  | [], _ :: _, h => by cases h
  | _ :: _, [], h => by cases h

/-! ### Answers by a table -/
def lookT : List (List A1 × AV) → List A1 → Option AV
  | [], _ => none
  | e :: r, args => bif a1sB e.1 args then some e.2 else lookT r args
def ansT (l : List (List A1 × AV)) : Ans := fun args _ => lookT l args
/-- What a function answers, once. -/
structure Ent (M : Dom) (f : FuncId) where
  args : List A1
  ans : AV
  ok : ∀ {B : Nat} {ρ : Env} {w : World} {S : Tr Bk} {vs : List Value}, SRel M B ρ w S → rel1s M ρ w args vs → Calls Tryz.prog f vs.toArray w fun e w' => ∃ v, e = .returned v ∧ ans.rel M ρ w' v ∧ Below w.heap.size w w'
def entsT {M : Dom} {f : FuncId} (l : List (Ent M f)) : List (List A1 × AV) := l.map fun e => (e.args, e.ans)
theorem lookT_ents {M : Dom} {f : FuncId} {args : List A1} {av : AV} : ∀ {l : List (Ent M f)}, lookT (entsT l) args = some av → ∃ e : Ent M f, e.args = args ∧ e.ans = av
  | [], h => by cases h
  | e :: r, h => by
    simp only [entsT, List.map_cons, lookT] at h
    cases hb : a1sB e.args args with
    | true => rw [hb] at h; exact ⟨e, a1sB_ok hb, Option.some.inj h⟩
    | false => rw [hb] at h; exact lookT_ents (l := r) h
def orcT {M : Dom} (f : FuncId) (l : List (Ent M f)) : OrcS Tryz.prog M where
  f := f
  ans := ansT (entsT l)
  ok := by
    intro args S av ha B ρ w vs hS hr
    obtain ⟨e, rfl, rfl⟩ := lookT_ents ha
    exact e.ok hS hr

/-! ### Operations by a table -/
def opCode : BinOp → Nat
  | .add => 0 | .sub => 1 | .mul => 2 | .quo => 3 | .rem => 4 | .and => 5 | .or => 6 | .xor => 7 | .shl => 8 | .shr => 9 | .andNot => 10
  | .eql => 11 | .neq => 12 | .lss => 13 | .leq => 14 | .gtr => 15 | .geq => 16
theorem opCode_ok {a b : BinOp} (h : Nat.beq (opCode a) (opCode b) = true) : a = b := by
  have := Nat.eq_of_beq_eq_true h
  cases a <;> cases b <;> first | rfl | (revert this; decide)
abbrev BT := List (BinOp × AC × AC × AC)
def lookB : BT → BinOp → AC → AC → Option AC
  | [], _, _, _ => none
  | e :: r, b, c, d => bif Nat.beq (opCode e.1) (opCode b) && (acB e.2.1 c && acB e.2.2.1 d) then some e.2.2.2 else lookB r b c d
theorem lookB_ok {b : BinOp} {c d x : AC} : ∀ {l : BT}, lookB l b c d = some x → (b, c, d, x) ∈ l
  | [], h => by cases h
  | e :: r, h => by
    simp only [lookB] at h
    cases hb : Nat.beq (opCode e.1) (opCode b) && (acB e.2.1 c && acB e.2.2.1 d) with
    | true =>
      rw [hb] at h
      simp only [Bool.and_eq_true] at hb
      obtain ⟨e1, e2, e3, e4⟩ := e
      obtain rfl := opCode_ok hb.1
      obtain rfl := acB_ok hb.2.1
      obtain rfl := acB_ok hb.2.2
      obtain rfl := Option.some.inj h
      exact List.mem_cons_self
    | false => rw [hb] at h; exact List.mem_cons_of_mem _ (lookB_ok (l := r) h)
/-- Operations of two; the greater of two. -/
def tabHook (l m : BT) : OpF := fun ev S n o => match o.op with
  | .binOp b t x y _ => match ev x, ev y with
    | some (.v (.one c)), some (.v (.one d)) => match lookB l b c d with
      | some r => some (.v (.one r), [], n)
      | none => none
    | _, _ => none
  | .call c => match c.callee, c.args.toList with
    | .builtin .max, [x, y] => match ev x, ev y with
      | some (.v (.one c)), some (.v (.one d)) => match lookB m .add c d with
        | some r => some (.v (.one r), [], n)
        | none => none
      | _, _ => none
    | _, _ => none
  | _ => none
theorem tabHook_le (l m : BT) : OpLe (tabHook l m) := by
  intro S n n' ev o av dl h
  unfold tabHook at h
  repeat' split at h
  all_goals first
    | (cases h; done)
    | (simp only [Option.some.injEq, Prod.mk.injEq] at h; obtain ⟨_, _, rfl⟩ := h; exact Nat.le_refl _)
/-- What a cell is, if it is written out or a letter. -/
def acV (σ : SymD) : AC → Value
  | .lit v => v
  | .atom (.sym i) => σ.val i
  | _ => undef
def isPl : AC → Bool
  | .lit (.bool _) => true
  | .lit (.int _ _) => true
  | .atom (.sym _) => true
  | _ => false
theorem acV_rel {st : Bool} {ν : Nat → Rat} {σ : SymD} {γ : Nat → Option (List Value)} {ρ : Env} {w : World} {c : AC} {u : Value} (hp : isPl c = true) (h : c.rel (DomQ st ν σ γ) ρ w u) : u = acV σ c := by
  unfold isPl at hp
  split at hp
  · exact h.1
  · exact h.1
  · exact h.1
  · cases hp
theorem acV_put {st : Bool} {ν : Nat → Rat} {σ : SymD} {γ : Nat → Option (List Value)} {ρ : Env} {w : World} {c : AC} (hp : isPl c = true) (hf : st = true → ∀ i, c = .atom (.sym i) → σ.fact i w) : c.rel (DomQ st ν σ γ) ρ w (acV σ c) := by
  unfold isPl at hp
  split at hp
  · exact ⟨rfl, rfl⟩
  · exact ⟨rfl, rfl⟩
  · exact ⟨rfl, fun h => hf h _ rfl⟩
  · cases hp
/-- An operation's row is right. -/
def BOk (σ : SymD) (e : BinOp × AC × AC × AC) : Prop := isPl e.2.1 = true ∧ isPl e.2.2.1 = true ∧ isPl e.2.2.2 = true ∧ (∀ i, e.2.2.2 = .atom (.sym i) → ∀ w, σ.fact i w) ∧
  ∃ k x k' y, acV σ e.2.1 = .int k x ∧ acV σ e.2.2.1 = .int k' y ∧ ∀ t, binOp e.1 t (.int k x) (.int k' y) = pure (acV σ e.2.2.2)
def MOk (σ : SymD) (e : BinOp × AC × AC × AC) : Prop := isPl e.2.1 = true ∧ isPl e.2.2.1 = true ∧ isPl e.2.2.2 = true ∧ (∀ i, e.2.2.2 = .atom (.sym i) → ∀ w, σ.fact i w) ∧
  ∃ x y, acV σ e.2.1 = .int .i64 x ∧ acV σ e.2.2.1 = .int .i64 y ∧ acV σ e.2.2.2 = .int .i64 (max x y)
theorem tabHook_ok {st : Bool} {ν : Nat → Rat} {σ : SymD} {γ : Nat → Option (List Value)} {B : Nat} (P : Program) {l m : BT} (hl : ∀ e ∈ l, BOk σ e) (hm : ∀ e ∈ m, MOk σ e) : OpOK (DomQ st ν σ γ) B P (tabHook l m) := by
  intro ρ w S n n' ev a o av dl he hS hB hk hf h next Q hn
  unfold tabHook at h
  split at h
  · rename_i b t x y yt hop
    split at h
    · rename_i c d hx hy
      split at h
      · rename_i r hr
        simp only [Option.some.injEq, Prod.mk.injEq] at h
        obtain ⟨rfl, rfl, rfl⟩ := h
        obtain ⟨p1, p2, p3, pf, k, z, k', z', e1, e2, hb⟩ := hl _ (lookB_ok hr)
        have hxv : a.eval x = .int k z := (acV_rel p1 (he _ _ hx)).trans e1
        have hyv : a.eval y = .int k' z' := (acV_rel p2 (he _ _ hy)).trans e2
        have hrun : (execOp a.eval o).run P w = .ok (.value (acV σ r)) w := by
          unfold execOp
          rw [hop]
          simp only [hxv, hyv, eqGuard_ints, hb]
          rfl
        unfold Oper.wp
        rw [hrun]
        exact hn _ w ρ (acV_put p3 (fun _ i hi => pf i hi w)) (Tn.refl hS _ hk)
      · cases h
    · cases h
  · rename_i c hop
    split at h
    · rename_i x y hcc ha
      split at h
      · rename_i c1 d1 hx hy
        split at h
        · rename_i r hr
          simp only [Option.some.injEq, Prod.mk.injEq] at h
          obtain ⟨rfl, rfl, rfl⟩ := h
          obtain ⟨p1, p2, p3, pf, z, z', e1, e2, hb⟩ := hm _ (lookB_ok hr)
          have hxv : a.eval x = .int .i64 z := (acV_rel p1 (he _ _ hx)).trans e1
          have hyv : a.eval y = .int .i64 z' := (acV_rel p2 (he _ _ hy)).trans e2
          obtain ⟨callee, args, argTypes⟩ := c
          simp only at hcc ha
          subst hcc
          obtain rfl : args = #[x, y] := by cases args; simp at ha; simp [ha]
          have hb' : acV σ r = .int .i64 (if z < z' then z' else z) := by
            simp only at hb; rw [hb]; congr 1; split <;> omega
          have hrun : (execOp a.eval o).run P w = .ok (.value (acV σ r)) w := by
            unfold execOp
            rw [hop, hb']
            simp only [resolve, Sem.run_bind, Sem.run_pure, Result.andThen_ok, invoke, builtin]
            simp [Builtin.max_, Builtin.max2, hxv, hyv]
          unfold Oper.wp
          rw [hrun]
          exact hn _ w ρ (acV_put p3 (fun _ i hi => pf i hi w)) (Tn.refl hS _ hk)
        · cases h
      · cases h
    · cases h
  · cases h

/-! ### Letters by rows -/
inductive PV where
  | b (x : Bool)
  | i (x : Int)
  | u (x : Nat)
def PV.val : PV → Value
  | .b x => .bool x
  | .i x => .int .i64 x
  | .u x => .int .u64 (x : Int)
def symL (l : List PV) : SymD := ⟨fun i => (l.getD i (.i 0)).val, fun _ _ => True, fun _ h => h, fun i => by cases l.getD i (.i 0) <;> exact ⟨rfl, by simp [PV.val]⟩⟩
/-- Numbers: the first ten rational, the others natural. -/
def nuL (qs : List Rat) (ns : List Nat) (i : Nat) : Rat := if i < 10 then qs.getD i 0 else ((ns.getD (i - 10) 0 : Nat) : Rat)
theorem avQ_rv {ν : Nat → Rat} {σ : SymD} {γ : Nat → Option (List Value)} {ρ : Env} {w : World} {u : Value} {r : RE} (h : (avQ r).rel (DomQ true ν σ γ) ρ w u) : RV w u (vq ν r) := by
  obtain ⟨us, rfl, hu⟩ := h
  match us, hu with
  | [c1, c2, c3], ⟨h1, h2, h3, _⟩ =>
    obtain ⟨_, rfl⟩ : _ ∧ c1 = _ := h1
    exact ⟨c2, c3, rfl, h2.2, h3.2⟩
def avB' : AV → AV → Bool
  | .v a, .v b => a1B a b
  | .tup a, .tup b => a1sB a b
  | _, _ => false
theorem avB'_ok {a b : AV} (h : avB' a b = true) : a = b := by
  unfold avB' at h
  split at h
  · rw [a1B_ok h]
  · rw [a1sB_ok h]
  · cases h
/-- Is it this that was read? -/
def isAV (want : AV) : Option (AV × Dl × Nat) → Bool
  | some (a, _, _) => avB' a want
  | none => false
theorem isAV_ok {want : AV} {r : Option (AV × Dl × Nat)} (h : isAV want r = true) : ∃ dl n, r = some (want, dl, n) := by
  unfold isAV at h
  split at h
  · rw [avB'_ok h]; exact ⟨_, _, rfl⟩
  · cases h

/-! ### Operations upon whole numbers -/
theorem bo_sub {k : IntKind} {x y z : Int} (h : k.wrap (x - y) = z) (t : TypeId) : binOp .sub t (.int k x) (.int k y) = pure (.int k z) := by rw [binOp_sub]; subst h; rfl
theorem bo_add {k : IntKind} {x y z : Int} (h : k.wrap (x + y) = z) (t : TypeId) : binOp .add t (.int k x) (.int k y) = pure (.int k z) := by rw [binOp_add]; subst h; rfl
theorem bo_mul {k : IntKind} {x y z : Int} (h : k.wrap (x * y) = z) (t : TypeId) : binOp .mul t (.int k x) (.int k y) = pure (.int k z) := by rw [binOp_mul]; subst h; rfl
theorem bo_lss {k : IntKind} {x y : Int} {r : Bool} (h : decide (x < y) = r) (t : TypeId) : binOp .lss t (.int k x) (.int k y) = pure (.bool r) := by rw [binOp_lss]; subst h; rfl
theorem bo_leq {k : IntKind} {x y : Int} {r : Bool} (h : decide (x ≤ y) = r) (t : TypeId) : binOp .leq t (.int k x) (.int k y) = pure (.bool r) := by rw [binOp_leq]; subst h; rfl
theorem bo_gtr {k : IntKind} {x y : Int} {r : Bool} (h : decide (y < x) = r) (t : TypeId) : binOp .gtr t (.int k x) (.int k y) = pure (.bool r) := by rw [binOp_gtr]; subst h; rfl
theorem bo_geq {k : IntKind} {x y : Int} {r : Bool} (h : decide (y ≤ x) = r) (t : TypeId) : binOp .geq t (.int k x) (.int k y) = pure (.bool r) := by rw [binOp_geq]; subst h; rfl
theorem bo_eql {k : IntKind} {x y : Int} {r : Bool} (h : decide (x = y) = r) (t : TypeId) : binOp .eql t (.int k x) (.int k y) = pure (.bool r) := by rw [binOp_eql]; subst h; rfl
theorem bo_neq {k : IntKind} {x y : Int} {r : Bool} (h : decide (x = y) = !r) (t : TypeId) : binOp .neq t (.int k x) (.int k y) = pure (.bool r) := by
  rw [binOp_neq]
  have : (x != y) = !(decide (x = y)) := rfl
  rw [this, h, Bool.not_not]
theorem bo_rem2 (v : Nat) (hv : v < 18446744073709551616) (t : TypeId) : binOp .rem t (.int .u64 (v : Int)) (.int .u64 2) = pure (.int .u64 ((v % 2 : Nat) : Int)) := by
  rw [binOp_rem]
  have e : ((v : Int).tmod 2) = ((v % 2 : Nat) : Int) := by
    rw [Int.tmod_eq_emod_of_nonneg (by omega)]; omega
  have e2 : IntKind.u64.wrap ((v % 2 : Nat) : Int) = ((v % 2 : Nat) : Int) := by
    simp [IntKind.wrap, IntKind.bits, IntKind.signed]; omega
  simp [Op.intDiv, e, e2]
theorem wr64 {x : Int} (h1 : -9223372036854775808 ≤ x) (h2 : x ≤ 9223372036854775807) : IntKind.i64.wrap x = x := by simp [IntKind.wrap, IntKind.bits, IntKind.signed]; omega
theorem wrU {x : Int} (h1 : 0 ≤ x) (h2 : x < 18446744073709551616) : IntKind.u64.wrap x = x := by simp [IntKind.wrap, IntKind.bits, IntKind.signed]; omega
theorem BOk.mk {σ : SymD} {b : BinOp} {c d r : AC} (h1 : isPl c = true) (h2 : isPl d = true) (h3 : isPl r = true) (hf : ∀ i, r = .atom (.sym i) → ∀ w, σ.fact i w) {k : IntKind} {x : Int} {k' : IntKind} {y : Int}
    (e1 : acV σ c = .int k x) (e2 : acV σ d = .int k' y) (h : ∀ t, binOp b t (.int k x) (.int k' y) = pure (acV σ r)) : BOk σ (b, c, d, r) := ⟨h1, h2, h3, hf, k, x, k', y, e1, e2, h⟩
theorem all_nil {α : Type} {p : α → Prop} : ∀ e ∈ ([] : List α), p e := fun _ h => by cases h
theorem all_cons {α : Type} {p : α → Prop} {a : α} {l : List α} (h : p a) (g : ∀ e ∈ l, p e) : ∀ e ∈ a :: l, p e := fun e he => by
  rcases List.mem_cons.1 he with rfl | he
  · exact h
  · exact g e he
end Go.Proofs.YtcfhajnboamnnabGreatDoor

namespace Go.Proofs.YtcfhajnboamnnabGreatDoor
open Go.RowKit Go.Ev
set_option linter.unusedVariables false
set_option linter.unusedSimpArgs false

set_option maxHeartbeats 1000000 in
/-- within: what is left by 12. -/
theorem within3_12 (w : World) (a : Int) (ha1 : -9223372036854775808 ≤ a) (ha2 : a ≤ 9223372036854775807) :
    Calls Tryz.prog 51 #[.int .i64 a, .int .i64 12] w fun e w' => e = .returned (.int .i64 (a % 12)) ∧ w = w' := by
  by_cases h0 : 0 ≤ a
  · have h1 : a % 12 < 12 := Int.emod_lt_of_pos _ (by omega)
    have h2 : 0 ≤ a % 12 := Int.emod_nonneg _ (by omega)
    go_enter Tryz.func51, Tryz.ntmps51
    go_wp2
    go_ret
    exact ⟨rfl, rfl⟩
  · have hb : ∃ b : Int, a = -b ∧ 0 < b := ⟨-a, by omega, by omega⟩
    obtain ⟨b, hb, hb0⟩ := hb
    have h3 : a.tmod 12 = -(b % 12) := by rw [hb, Int.neg_tmod, Int.tmod_eq_emod_of_nonneg (by omega)]
    have h1 : b % 12 < 12 := Int.emod_lt_of_pos _ (by omega)
    have h2 : 0 ≤ b % 12 := Int.emod_nonneg _ (by omega)
    obtain ⟨t, ht⟩ : ∃ t, t = b % 12 := ⟨_, rfl⟩
    obtain ⟨r, hr⟩ : ∃ r, r = a % 12 := ⟨_, rfl⟩
    have h5 : r = if t = 0 then 0 else 12 - t := by split <;> omega
    rw [← hr]
    rw [← ht] at h1 h2 h3
    clear ht hb hr
    by_cases ht0 : t = 0
    · have h4 : ¬ (-t < 0) := by omega
      rw [if_pos ht0] at h5
      subst h5
      have HT := hid ht0
      subst ht0
      simp only [Int.neg_zero] at h3
      go_enter Tryz.func51, Tryz.ntmps51
      go_wp2
      go_ret
      exact ⟨rfl, rfl⟩
    · have h4 : -t < 0 := by omega
      rw [if_neg ht0] at h5
      subst h5
      go_enter Tryz.func51, Tryz.ntmps51
      go_wp2
      go_ret
      refine ⟨?_, rfl⟩
      have e : -t + 12 = 12 - t := by omega
      simp only [e]
      rfl

set_option maxHeartbeats 1000000 in
/-- within: what is left by 5. -/
theorem within3_5 (w : World) (a : Int) (ha1 : -9223372036854775808 ≤ a) (ha2 : a ≤ 9223372036854775807) :
    Calls Tryz.prog 51 #[.int .i64 a, .int .i64 5] w fun e w' => e = .returned (.int .i64 (a % 5)) ∧ w = w' := by
  by_cases h0 : 0 ≤ a
  · have h1 : a % 5 < 5 := Int.emod_lt_of_pos _ (by omega)
    have h2 : 0 ≤ a % 5 := Int.emod_nonneg _ (by omega)
    go_enter Tryz.func51, Tryz.ntmps51
    go_wp2
    go_ret
    exact ⟨rfl, rfl⟩
  · have hb : ∃ b : Int, a = -b ∧ 0 < b := ⟨-a, by omega, by omega⟩
    obtain ⟨b, hb, hb0⟩ := hb
    have h3 : a.tmod 5 = -(b % 5) := by rw [hb, Int.neg_tmod, Int.tmod_eq_emod_of_nonneg (by omega)]
    have h1 : b % 5 < 5 := Int.emod_lt_of_pos _ (by omega)
    have h2 : 0 ≤ b % 5 := Int.emod_nonneg _ (by omega)
    obtain ⟨t, ht⟩ : ∃ t, t = b % 5 := ⟨_, rfl⟩
    obtain ⟨r, hr⟩ : ∃ r, r = a % 5 := ⟨_, rfl⟩
    have h5 : r = if t = 0 then 0 else 5 - t := by split <;> omega
    rw [← hr]
    rw [← ht] at h1 h2 h3
    clear ht hb hr
    by_cases ht0 : t = 0
    · have h4 : ¬ (-t < 0) := by omega
      rw [if_pos ht0] at h5
      subst h5
      have HT := hid ht0
      subst ht0
      simp only [Int.neg_zero] at h3
      go_enter Tryz.func51, Tryz.ntmps51
      go_wp2
      go_ret
      exact ⟨rfl, rfl⟩
    · have h4 : -t < 0 := by omega
      rw [if_neg ht0] at h5
      subst h5
      go_enter Tryz.func51, Tryz.ntmps51
      go_wp2
      go_ret
      refine ⟨?_, rfl⟩
      have e : -t + 5 = 5 - t := by omega
      simp only [e]
      rfl


/-- Bits, sums, shifts of 64 bits. -/
def bt (op : BinOp) (a b : Nat) : Nat := (bits op .u64 (a : Int) (b : Int)).toNat
theorem bt_eq (op : BinOp) (a b : Nat) : bits op .u64 (a : Int) (b : Int) = ((bt op a b : Nat) : Int) ∧ bt op a b < 18446744073709551616 := by
  obtain ⟨x, hx, e⟩ := bits_nat op (a : Int) (b : Int)
  have : bt op a b = x := by unfold bt; rw [e]; rfl
  rw [this]
  exact ⟨e, hx⟩
def ad (a b : Nat) : Nat := (a + b) % 18446744073709551616
def sb (a b : Nat) : Nat := (((a : Int) - (b : Int)) % 18446744073709551616).toNat
def sl (a k : Nat) : Nat := (a * 2 ^ k) % 18446744073709551616
theorem bo_and (a b : Nat) (t : TypeId) : binOp .and t (.int .u64 (a : Int)) (.int .u64 (b : Int)) = pure (.int .u64 ((bt .and a b : Nat) : Int)) := by
  rw [binOp_and, ← (bt_eq .and a b).1]; rfl
theorem bo_or (a b : Nat) (t : TypeId) : binOp .or t (.int .u64 (a : Int)) (.int .u64 (b : Int)) = pure (.int .u64 ((bt .or a b : Nat) : Int)) := by
  rw [binOp_or, ← (bt_eq .or a b).1]; rfl
theorem bo_ad (a b : Nat) (t : TypeId) : binOp .add t (.int .u64 (a : Int)) (.int .u64 (b : Int)) = pure (.int .u64 ((ad a b : Nat) : Int)) := by
  refine bo_add ?_ t
  unfold ad
  simp [IntKind.wrap, IntKind.bits, IntKind.signed]
theorem bo_sb (a b : Nat) (t : TypeId) : binOp .sub t (.int .u64 (a : Int)) (.int .u64 (b : Int)) = pure (.int .u64 ((sb a b : Nat) : Int)) := by
  refine bo_sub ?_ t
  unfold sb
  have : IntKind.u64.wrap ((a : Int) - (b : Int)) = ((a : Int) - (b : Int)) % 18446744073709551616 := by simp [IntKind.wrap, IntKind.bits, IntKind.signed]
  rw [this]
  omega
theorem bo_shl (a k : Nat) (hk : k ≤ 64) (yk : IntKind) (t : TypeId) : binOp .shl t (.int .u64 (a : Int)) (.int yk (k : Int)) = pure (.int .u64 ((sl a k : Nat) : Int)) := by
  rw [binOp_shl, shift_shl _ _ _ _ (by omega) (by simp [IntKind.bits]; omega)]
  rfl
theorem bo_shr (a k : Nat) (hk : k ≤ 64) (yk : IntKind) (t : TypeId) : binOp .shr t (.int .u64 (a : Int)) (.int yk (k : Int)) = pure (.int .u64 ((a / 2 ^ k : Nat) : Int)) := by
  rw [binOp_shr, shift_shr _ _ _ _ (by omega) (by simp [IntKind.bits]; omega)]
  rfl

/-- The law's float of raw bits. -/
def mkU (f k : Nat) : Nat := [(bt .and f 9223372036854775808), (bt .or (bt .and f 9223372036854775808) 9218868437227405312), (bt .or (bt .or (bt .or (bt .and f 9223372036854775808) 9218868437227405312) (bt .and f 65535)) 1), (bt .or (bt .and f 9223372036854775808) (bt .and f 255)), (bt .or (bt .and f 9223372036854775808) (ad 4503599627370492 (bt .and f 7))), (bt .or (bt .and f 9223372036854775808) (sb 9218868437227405311 (bt .and f 7))), (bt .or (bt .or (bt .and f 9223372036854775808) (sl (sb (ad 1023 (bt .and (f / 2 ^ 32) 31)) 16) 52)) (sl (bt .and f 255) 44)), (bt .or (bt .or (bt .and f 9223372036854775808) (sl (sb (ad 1023 (bt .and (f / 2 ^ 32) 31)) 16) 52)) (sl (bt .and f 255) 44)), (bt .or (bt .or (bt .and f 9223372036854775808) (sl (sb (ad 1023 (bt .and (f / 2 ^ 32) 31)) 16) 52)) (sl (bt .and f 255) 44)), (bt .or (bt .or (bt .and f 9223372036854775808) (sl (sb (ad 1023 (bt .and (f / 2 ^ 32) 127)) 64) 52)) (bt .and f 4503599627370495)), f, f].getD k 0
theorem mkU_lt {f : Nat} (hf : f < 18446744073709551616) (k : Nat) : mkU f k < 18446744073709551616 := by
  have hb := fun op a b => (bt_eq op a b).2
  match k with
  | 0 => show (bt .and f 9223372036854775808) < _; exact hb _ _ _
  | 1 => show (bt .or (bt .and f 9223372036854775808) 9218868437227405312) < _; exact hb _ _ _
  | 2 => show (bt .or (bt .or (bt .or (bt .and f 9223372036854775808) 9218868437227405312) (bt .and f 65535)) 1) < _; exact hb _ _ _
  | 3 => show (bt .or (bt .and f 9223372036854775808) (bt .and f 255)) < _; exact hb _ _ _
  | 4 => show (bt .or (bt .and f 9223372036854775808) (ad 4503599627370492 (bt .and f 7))) < _; exact hb _ _ _
  | 5 => show (bt .or (bt .and f 9223372036854775808) (sb 9218868437227405311 (bt .and f 7))) < _; exact hb _ _ _
  | 6 => show (bt .or (bt .or (bt .and f 9223372036854775808) (sl (sb (ad 1023 (bt .and (f / 2 ^ 32) 31)) 16) 52)) (sl (bt .and f 255) 44)) < _; exact hb _ _ _
  | 7 => show (bt .or (bt .or (bt .and f 9223372036854775808) (sl (sb (ad 1023 (bt .and (f / 2 ^ 32) 31)) 16) 52)) (sl (bt .and f 255) 44)) < _; exact hb _ _ _
  | 8 => show (bt .or (bt .or (bt .and f 9223372036854775808) (sl (sb (ad 1023 (bt .and (f / 2 ^ 32) 31)) 16) 52)) (sl (bt .and f 255) 44)) < _; exact hb _ _ _
  | 9 => show (bt .or (bt .or (bt .and f 9223372036854775808) (sl (sb (ad 1023 (bt .and (f / 2 ^ 32) 127)) 64) 52)) (bt .and f 4503599627370495)) < _; exact hb _ _ _
  | 10 => exact hf
  | 11 => exact hf
  | k + 12 => show (0 : Nat) < _; omega

def mk3D (k : Nat) : List (FuncId × Ans) :=
  [(51, ansT [([.one (.atom (.sym 1)), .one (.lit (.int .i64 (12)))], .v (.one (.lit (.int .i64 (k : Nat)))))])]
def mk3L (k : Nat) : BT := [(.and, .atom (.sym 0), .lit (.int .u64 9223372036854775808), .atom (.sym 2)), (.or, .atom (.sym 2), .lit (.int .u64 9218868437227405312), .atom (.sym 3)), (.and, .atom (.sym 0), .lit (.int .u64 65535), .atom (.sym 4)), (.or, .atom (.sym 3), .atom (.sym 4), .atom (.sym 5)), (.or, .atom (.sym 5), .lit (.int .u64 1), .atom (.sym 6)), (.and, .atom (.sym 0), .lit (.int .u64 255), .atom (.sym 7)), (.or, .atom (.sym 2), .atom (.sym 7), .atom (.sym 8)), (.and, .atom (.sym 0), .lit (.int .u64 7), .atom (.sym 9)), (.add, .lit (.int .u64 4503599627370492), .atom (.sym 9), .atom (.sym 10)), (.or, .atom (.sym 2), .atom (.sym 10), .atom (.sym 11)), (.sub, .lit (.int .u64 9218868437227405311), .atom (.sym 9), .atom (.sym 12)), (.or, .atom (.sym 2), .atom (.sym 12), .atom (.sym 13)), (.shr, .atom (.sym 0), .lit (.int .u64 32), .atom (.sym 14)), (.and, .atom (.sym 14), .lit (.int .u64 31), .atom (.sym 15)), (.add, .lit (.int .u64 1023), .atom (.sym 15), .atom (.sym 16)), (.sub, .atom (.sym 16), .lit (.int .u64 16), .atom (.sym 17)), (.shl, .atom (.sym 17), .lit (.int .u64 52), .atom (.sym 18)), (.or, .atom (.sym 2), .atom (.sym 18), .atom (.sym 19)), (.shl, .atom (.sym 7), .lit (.int .u64 44), .atom (.sym 20)), (.or, .atom (.sym 19), .atom (.sym 20), .atom (.sym 21)), (.and, .atom (.sym 14), .lit (.int .u64 127), .atom (.sym 22)), (.add, .lit (.int .u64 1023), .atom (.sym 22), .atom (.sym 23)), (.sub, .atom (.sym 23), .lit (.int .u64 64), .atom (.sym 24)), (.shl, .atom (.sym 24), .lit (.int .u64 52), .atom (.sym 25)), (.or, .atom (.sym 2), .atom (.sym 25), .atom (.sym 26)), (.and, .atom (.sym 0), .lit (.int .u64 4503599627370495), .atom (.sym 27)), (.or, .atom (.sym 26), .atom (.sym 27), .atom (.sym 28))]
def mk3M : BT := []
def mk3N : At → Option Nat
  | _ => none

set_option maxRecDepth 1000000 in
theorem mk3Told : ∃ t : Tr Func, TabOK Tryz.prog t ∧ (∀ k, k < 12 → isAV (.v (.one (.atom (.sym ([2, 3, 6, 8, 11, 13, 21, 21, 21, 28, 0, 0].getD k 0))))) (evalCall ⟨Tryz.prog, true, t.get, orcD (mk3D k), (opH (bigHook Tryz.prog true) (opH (symHook Tryz.prog mk3N (fun _ _ _ => none)) (tabHook (mk3L k) mk3M)))⟩ 1000 13 [.one (.atom (.sym 0)), .one (.atom (.sym 1))] .e 0) = true) :=
  ⟨((Tr.e).put 13 (some Tryz.f13)).put 51 (some Tryz.f51),
   (TabOK.put (TabOK.put (TabOK.e _) ⟨Tryz.func13, by decide +kernel, by decide +kernel⟩) ⟨Tryz.func51, by decide +kernel, by decide +kernel⟩),
   by decide +kernel⟩

set_option maxHeartbeats 4000000 in
set_option maxRecDepth 100000 in
theorem mk3_tab {w : World} (f : Nat) (n : Int) (hf : f < 18446744073709551616) (hn1 : -9223372036854775808 ≤ n) (hn2 : n ≤ 9223372036854775807) {k : Nat} (hk : k < 12) (hnk : n % 12 = (k : Int)) :
    Calls Tryz.prog 13 #[.int .u64 f, .int .i64 n] w fun e w' => e = .returned (.int .u64 ((mkU f k : Nat) : Int)) ∧ Below w.heap.size w w' := by
  have cW : ∀ (w : World), Calls Tryz.prog 51 #[.int .i64 n, .int .i64 12] w fun e w' => e = .returned (.int .i64 (k : Int)) ∧ Fwd w w' := fun w => (within3_12 w n hn1 hn2).mono fun e w' gg => ⟨by rw [gg.1, hnk], gg.2 ▸ Fwd.refl _⟩
  obtain ⟨t, ht, hr⟩ := mk3Told
  obtain ⟨dl, n', he⟩ := isAV_ok (hr _ hk)
  let ν : Nat → Rat := nuL [] []
  let σ : SymD := symL [.u f, .i n, .u (bt .and f 9223372036854775808), .u (bt .or (bt .and f 9223372036854775808) 9218868437227405312), .u (bt .and f 65535), .u (bt .or (bt .or (bt .and f 9223372036854775808) 9218868437227405312) (bt .and f 65535)), .u (bt .or (bt .or (bt .or (bt .and f 9223372036854775808) 9218868437227405312) (bt .and f 65535)) 1), .u (bt .and f 255), .u (bt .or (bt .and f 9223372036854775808) (bt .and f 255)), .u (bt .and f 7), .u (ad 4503599627370492 (bt .and f 7)), .u (bt .or (bt .and f 9223372036854775808) (ad 4503599627370492 (bt .and f 7))), .u (sb 9218868437227405311 (bt .and f 7)), .u (bt .or (bt .and f 9223372036854775808) (sb 9218868437227405311 (bt .and f 7))), .u (f / 2 ^ 32), .u (bt .and (f / 2 ^ 32) 31), .u (ad 1023 (bt .and (f / 2 ^ 32) 31)), .u (sb (ad 1023 (bt .and (f / 2 ^ 32) 31)) 16), .u (sl (sb (ad 1023 (bt .and (f / 2 ^ 32) 31)) 16) 52), .u (bt .or (bt .and f 9223372036854775808) (sl (sb (ad 1023 (bt .and (f / 2 ^ 32) 31)) 16) 52)), .u (sl (bt .and f 255) 44), .u (bt .or (bt .or (bt .and f 9223372036854775808) (sl (sb (ad 1023 (bt .and (f / 2 ^ 32) 31)) 16) 52)) (sl (bt .and f 255) 44)), .u (bt .and (f / 2 ^ 32) 127), .u (ad 1023 (bt .and (f / 2 ^ 32) 127)), .u (sb (ad 1023 (bt .and (f / 2 ^ 32) 127)) 64), .u (sl (sb (ad 1023 (bt .and (f / 2 ^ 32) 127)) 64) 52), .u (bt .or (bt .and f 9223372036854775808) (sl (sb (ad 1023 (bt .and (f / 2 ^ 32) 127)) 64) 52)), .u (bt .and f 4503599627370495), .u (bt .or (bt .or (bt .and f 9223372036854775808) (sl (sb (ad 1023 (bt .and (f / 2 ^ 32) 127)) 64) 52)) (bt .and f 4503599627370495))]
  have hcx : CxOK (DomQ true ν σ (fun _ => none)) w.heap.size ⟨Tryz.prog, true, t.get, orcD (mk3D k), (opH (bigHook Tryz.prog true) (opH (symHook Tryz.prog mk3N (fun _ _ _ => none)) (tabHook (mk3L k) mk3M)))⟩ := cxS_ok (M := (DomQ true ν σ (fun _ => none))) ht ⟨[
      orcT 51 [
        { args := [.one (.atom (.sym 1)), .one (.lit (.int .i64 (12)))], ans := .v (.one (.lit (.int .i64 (k : Nat)))), ok := by
            intro B ρ w S vs hS hr
            match vs, hr with
            | [u0, u1], ⟨z0, z1, _⟩ =>
              obtain ⟨rfl, _⟩ : u0 = _ ∧ _ := z0
              obtain ⟨rfl, _⟩ : u1 = _ ∧ _ := z1
              refine (cW _).mono ?_
              rintro e w' ⟨rfl, hf⟩
              exact ⟨_, rfl, ⟨rfl, rfl⟩, hf⟩ }]], rfl⟩
    (opH_le (bigHook_le _ _) (opH_le (symHook_le _ _ _) (tabHook_le _ _)))
    (opH_ok (bigHook_ok _) (opH_ok (symHook_ok _ (fun h => by cases h) (fun h => by cases h)) (tabHook_ok _ (all_cons (BOk.mk rfl rfl rfl (fun _ _ _ => trivial) rfl rfl (bo_and _ _)) (all_cons (BOk.mk rfl rfl rfl (fun _ _ _ => trivial) rfl rfl (bo_or _ _)) (all_cons (BOk.mk rfl rfl rfl (fun _ _ _ => trivial) rfl rfl (bo_and _ _)) (all_cons (BOk.mk rfl rfl rfl (fun _ _ _ => trivial) rfl rfl (bo_or _ _)) (all_cons (BOk.mk rfl rfl rfl (fun _ _ _ => trivial) rfl rfl (bo_or _ _)) (all_cons (BOk.mk rfl rfl rfl (fun _ _ _ => trivial) rfl rfl (bo_and _ _)) (all_cons (BOk.mk rfl rfl rfl (fun _ _ _ => trivial) rfl rfl (bo_or _ _)) (all_cons (BOk.mk rfl rfl rfl (fun _ _ _ => trivial) rfl rfl (bo_and _ _)) (all_cons (BOk.mk rfl rfl rfl (fun _ _ _ => trivial) rfl rfl (bo_ad _ _)) (all_cons (BOk.mk rfl rfl rfl (fun _ _ _ => trivial) rfl rfl (bo_or _ _)) (all_cons (BOk.mk rfl rfl rfl (fun _ _ _ => trivial) rfl rfl (bo_sb _ _)) (all_cons (BOk.mk rfl rfl rfl (fun _ _ _ => trivial) rfl rfl (bo_or _ _)) (all_cons (BOk.mk rfl rfl rfl (fun _ _ _ => trivial) rfl rfl (bo_shr _ 32 (by omega) _)) (all_cons (BOk.mk rfl rfl rfl (fun _ _ _ => trivial) rfl rfl (bo_and _ _)) (all_cons (BOk.mk rfl rfl rfl (fun _ _ _ => trivial) rfl rfl (bo_ad _ _)) (all_cons (BOk.mk rfl rfl rfl (fun _ _ _ => trivial) rfl rfl (bo_sb _ _)) (all_cons (BOk.mk rfl rfl rfl (fun _ _ _ => trivial) rfl rfl (bo_shl _ 52 (by omega) _)) (all_cons (BOk.mk rfl rfl rfl (fun _ _ _ => trivial) rfl rfl (bo_or _ _)) (all_cons (BOk.mk rfl rfl rfl (fun _ _ _ => trivial) rfl rfl (bo_shl _ 44 (by omega) _)) (all_cons (BOk.mk rfl rfl rfl (fun _ _ _ => trivial) rfl rfl (bo_or _ _)) (all_cons (BOk.mk rfl rfl rfl (fun _ _ _ => trivial) rfl rfl (bo_and _ _)) (all_cons (BOk.mk rfl rfl rfl (fun _ _ _ => trivial) rfl rfl (bo_ad _ _)) (all_cons (BOk.mk rfl rfl rfl (fun _ _ _ => trivial) rfl rfl (bo_sb _ _)) (all_cons (BOk.mk rfl rfl rfl (fun _ _ _ => trivial) rfl rfl (bo_shl _ 52 (by omega) _)) (all_cons (BOk.mk rfl rfl rfl (fun _ _ _ => trivial) rfl rfl (bo_or _ _)) (all_cons (BOk.mk rfl rfl rfl (fun _ _ _ => trivial) rfl rfl (bo_and _ _)) (all_cons (BOk.mk rfl rfl rfl (fun _ _ _ => trivial) rfl rfl (bo_or _ _)) all_nil))))))))))))))))))))))))))) all_nil)))
  refine (told_call (M := (DomQ true ν σ (fun _ => none))) (cx := ⟨Tryz.prog, true, t.get, orcD (mk3D k), (opH (bigHook Tryz.prog true) (opH (symHook Tryz.prog mk3N (fun _ _ _ => none)) (tabHook (mk3L k) mk3M)))⟩) (xs := [.one (.atom (.sym 0)), .one (.atom (.sym 1))]) (vs := [.int .u64 f, .int .i64 n]) Tryz.checked.mixed hcx (fun hg => by cases hg) ⟨⟨rfl, fun _ => trivial⟩, ⟨rfl, fun _ => trivial⟩, trivial⟩ he).mono ?_
  rintro e w' ⟨v, ρ', rfl, hv, hbel⟩
  match k, hk, hv with
  | 0, _, hv => obtain ⟨rfl, _⟩ : v = _ ∧ _ := hv; exact ⟨rfl, hbel⟩
  | 1, _, hv => obtain ⟨rfl, _⟩ : v = _ ∧ _ := hv; exact ⟨rfl, hbel⟩
  | 2, _, hv => obtain ⟨rfl, _⟩ : v = _ ∧ _ := hv; exact ⟨rfl, hbel⟩
  | 3, _, hv => obtain ⟨rfl, _⟩ : v = _ ∧ _ := hv; exact ⟨rfl, hbel⟩
  | 4, _, hv => obtain ⟨rfl, _⟩ : v = _ ∧ _ := hv; exact ⟨rfl, hbel⟩
  | 5, _, hv => obtain ⟨rfl, _⟩ : v = _ ∧ _ := hv; exact ⟨rfl, hbel⟩
  | 6, _, hv => obtain ⟨rfl, _⟩ : v = _ ∧ _ := hv; exact ⟨rfl, hbel⟩
  | 7, _, hv => obtain ⟨rfl, _⟩ : v = _ ∧ _ := hv; exact ⟨rfl, hbel⟩
  | 8, _, hv => obtain ⟨rfl, _⟩ : v = _ ∧ _ := hv; exact ⟨rfl, hbel⟩
  | 9, _, hv => obtain ⟨rfl, _⟩ : v = _ ∧ _ := hv; exact ⟨rfl, hbel⟩
  | 10, _, hv => obtain ⟨rfl, _⟩ : v = _ ∧ _ := hv; exact ⟨rfl, hbel⟩
  | 11, _, hv => obtain ⟨rfl, _⟩ : v = _ ∧ _ := hv; exact ⟨rfl, hbel⟩

/-- It is one float, in any world. -/
theorem make3_fix (f : Nat) (n : Int) (hf : f < 18446744073709551616) (hn1 : -9223372036854775808 ≤ n) (hn2 : n ≤ 9223372036854775807) :
    ∃ x : Nat, x < 18446744073709551616 ∧ ∀ w : World, Calls Tryz.prog 13 #[.int .u64 f, .int .i64 n] w fun e w' => e = .returned (.int .u64 x) ∧ Fwd w w' :=
  ⟨mkU f (n % 12).toNat, mkU_lt hf _, fun w => mk3_tab f n hf hn1 hn2 (k := (n % 12).toNat) (by omega) (by omega)⟩
end Go.Proofs.YtcfhajnboamnnabGreatDoor
