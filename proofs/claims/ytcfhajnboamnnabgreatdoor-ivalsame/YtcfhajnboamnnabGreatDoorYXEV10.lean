/- A reader of closed calls: code and calls are what they say. -/
/- A reader of closed calls: a call is what it says. -/
import Derived.Test.YtcfhajnboamnnabGreatDoorYXEV8
import Derived.LoopN
namespace Go.Ev
open Go.RowKit
set_option linter.unusedVariables false
set_option linter.unusedSimpArgs false

def AX.toExit : AX → Exit
  | .normal => .normal
  | .exit id => .exit id
  | .ret => .ret

section
variable {M : Dom} {B : Nat} {P : Program} {ρ ρ' : Env} {w w' : World} {S : Tr Bk} {n n' : Nat}

def DrawOK (M : Dom) (B : Nat) (P : Program) (opf : OpF) : Prop := ∀ {sz : Nat} {ops : Array Oper} {st st' : St}, drawOps opf sz ops st = some st' → st.n ≤ st'.n ∧
  ∀ {id : Nat} {ρ : Env} {w : World} {a : Act} {Q : Exit → Act → World → Prop}, StRel M B ρ w st sz a → Free ρ st.n st'.n →
    (∀ ρ' w' a', StRel M B ρ' w' st' sz a' → Stp M B ρ w st ρ' w' st' → Q .normal a' w') → (Code.region id ops true).wp P Q a w

def CodeOK (M : Dom) (B : Nat) (P : Program) (sz : Nat) (rec : Code → St → Option (AX × St)) : Prop := ∀ c st x st', rec c st = some (x, st') → st.n ≤ st'.n ∧
  ∀ (ρ : Env) (w : World) (a : Act) (Q : Exit → Act → World → Prop), StRel M B ρ w st sz a → Free ρ st.n st'.n →
    (∀ ρ' w' a', StRel M B ρ' w' st' sz a' → Stp M B ρ w st ρ' w' st' → Q x.toExit a' w') → c.wp P Q a w

theorem loopA_ok {sz : Nat} {rec : Code → St → Option (AX × St)} (hrec : CodeOK M B P sz rec) (c : Code) : ∀ (k : Nat) (st : St) (x : AX) (st' : St), loopA (rec c) k st = some (x, st') → st.n ≤ st'.n ∧
    ∀ (ρ : Env) (w : World) (a : Act) (Q : Exit → Act → World → Prop), StRel M B ρ w st sz a → Free ρ st.n st'.n →
      (∀ ρ' w' a', StRel M B ρ' w' st' sz a' → Stp M B ρ w st ρ' w' st' → Q x.toExit a' w') → Code.rounds P c Q k a w
  | 0, st, x, st', h => by cases h
  | k + 1, st, x, st', h => by
    unfold loopA at h
    split at h
    · rename_i st1 h1
      obtain ⟨l1, w1⟩ := hrec _ _ _ _ h1
      obtain ⟨l2, w2⟩ := loopA_ok hrec c k _ _ _ h
      refine ⟨Nat.le_trans l1 l2, fun ρ w a Q hst hf hq => ?_⟩
      rw [rounds_succ]
      refine w1 ρ w a _ hst (hf.sub (Nat.le_refl _) l2) fun ρ' w' a' hst' hstp' => ?_
      exact w2 ρ' w' a' Q hst' (hstp'.tn.free (hf.sub l1 (Nat.le_refl _)) (.inr (Nat.le_refl _))) fun ρ2 w2 a2 h3 h4 => hq ρ2 w2 a2 h3 (hstp'.trans h4)
    · rename_i hne
      obtain ⟨l1, w1⟩ := hrec _ _ _ _ h
      refine ⟨l1, fun ρ w a Q hst hf hq => ?_⟩
      rw [rounds_succ]
      refine w1 ρ w a _ hst hf fun ρ' w' a' hst' hstp' => ?_
      have := hq ρ' w' a' hst' hstp'
      cases x with
      | normal => exact absurd h (hne _)
      | exit id => exact this
      | ret => exact this

theorem boolA_ok {T : Tr AV} {a : Act} {c : Operand} {t : Bool} (he : EvRel M ρ w (evO T) a.eval) (h : boolA (evO T c) = some t) : a.eval c = .bool t := by
  unfold boolA at h
  split at h
  · rename_i b hx
    obtain rfl := Option.some.inj h
    exact (he _ _ hx).1
  · cases h

theorem codeA_ok {opf : OpF} (hok : OpOK M B P opf) (hle : OpLe opf) (hdraw : DrawOK M B P opf) {sz : Nat} {rec : Code → St → Option (AX × St)} (hrec : CodeOK M B P sz rec) : CodeOK M B P sz (codeA opf sz rec) := by
  intro c st x st' h
  unfold codeA at h
  split at h
  · simp only [Option.some.injEq, Prod.mk.injEq] at h
    obtain ⟨rfl, rfl⟩ := h
    exact ⟨Nat.le_refl _, fun ρ w a Q hst hf hq => wp_skip (hq ρ w a hst (Stp.refl hst.S hst.keys))⟩
  · simp only [Option.some.injEq, Prod.mk.injEq] at h
    obtain ⟨rfl, rfl⟩ := h
    exact ⟨Nat.le_refl _, fun ρ w a Q hst hf hq => wp_label (hq ρ w a hst (Stp.refl hst.S hst.keys))⟩
  · simp only [Option.some.injEq, Prod.mk.injEq] at h
    obtain ⟨rfl, rfl⟩ := h
    exact ⟨Nat.le_refl _, fun ρ w a Q hst hf hq => wp_ret (hq ρ w a hst (Stp.refl hst.S hst.keys))⟩
  · simp only [Option.some.injEq, Prod.mk.injEq] at h
    obtain ⟨rfl, rfl⟩ := h
    exact ⟨Nat.le_refl _, fun ρ w a Q hst hf hq => wp_exit (hq ρ w a hst (Stp.refl hst.S hst.keys))⟩
  · rename_i id ops draw
    cases draw with
    | true =>
      simp only [cond_true, Option.map_eq_some_iff, Prod.mk.injEq] at h
      obtain ⟨st1, h1, rfl, rfl⟩ := h
      obtain ⟨l1, w1⟩ := hdraw h1
      exact ⟨l1, fun ρ w a Q hst hf hq => w1 hst hf hq⟩
    | false =>
      simp only [cond_false, Option.map_eq_some_iff, Prod.mk.injEq] at h
      obtain ⟨st1, h1, rfl, rfl⟩ := h
      exact ⟨seqOps_le hle h1, fun ρ w a Q hst hf hq => wp_region_list (seqOps_wp hok hle h1 hst hf hq)⟩
  · rename_i c1 c2
    split at h
    · rename_i st1 h1
      obtain ⟨l1, w1⟩ := hrec _ _ _ _ h1
      obtain ⟨l2, w2⟩ := hrec _ _ _ _ h
      refine ⟨Nat.le_trans l1 l2, fun ρ w a Q hst hf hq => wp_seq ?_⟩
      refine w1 ρ w a _ hst (hf.sub (Nat.le_refl _) l2) fun ρ' w' a' hst' hstp' => ?_
      exact w2 ρ' w' a' Q hst' (hstp'.tn.free (hf.sub l1 (Nat.le_refl _)) (.inr (Nat.le_refl _))) fun ρ2 w2 a2 h3 h4 => hq ρ2 w2 a2 h3 (hstp'.trans h4)
    · rename_i hne
      obtain ⟨l1, w1⟩ := hrec _ _ _ _ h
      refine ⟨l1, fun ρ w a Q hst hf hq => wp_seq ?_⟩
      refine w1 ρ w a _ hst hf fun ρ' w' a' hst' hstp' => ?_
      have := hq ρ' w' a' hst' hstp'
      cases x with
      | normal => exact absurd h (hne _)
      | exit id => exact this
      | ret => exact this
  · rename_i c0 c1 c2
    split at h
    · rename_i t ht
      cases t with
      | true =>
        simp only [cond_true] at h
        obtain ⟨l1, w1⟩ := hrec _ _ _ _ h
        exact ⟨l1, fun ρ w a Q hst hf hq => wp_cond_true (boolA_ok (evO_rel hst.T) ht) (w1 ρ w a Q hst hf hq)⟩
      | false =>
        simp only [cond_false] at h
        obtain ⟨l1, w1⟩ := hrec _ _ _ _ h
        exact ⟨l1, fun ρ w a Q hst hf hq => wp_cond_false (boolA_ok (evO_rel hst.T) ht) (w1 ρ w a Q hst hf hq)⟩
    · cases h
  · rename_i id c1
    split at h
    · rename_i i st1 h1
      obtain ⟨l1, w1⟩ := hrec _ _ _ _ h1
      cases hi : Nat.beq i id with
      | true =>
        rw [hi] at h
        simp only [cond_true, Option.some.injEq, Prod.mk.injEq] at h
        obtain ⟨rfl, rfl⟩ := h
        obtain rfl := Nat.eq_of_beq_eq_true hi
        refine ⟨l1, fun ρ w a Q hst hf hq => wp_block ?_⟩
        refine w1 ρ w a _ hst hf fun ρ' w' a' hst' hstp' => ?_
        simp only [AX.toExit, Exit.inBlock, if_true]
        exact hq ρ' w' a' hst' hstp'
      | false =>
        rw [hi] at h
        simp only [cond_false, Option.some.injEq, Prod.mk.injEq] at h
        obtain ⟨rfl, rfl⟩ := h
        have hne : ¬ i = id := fun e => by rw [e] at hi; simp at hi
        refine ⟨l1, fun ρ w a Q hst hf hq => wp_block ?_⟩
        refine w1 ρ w a _ hst hf fun ρ' w' a' hst' hstp' => ?_
        simp only [AX.toExit, Exit.inBlock, if_neg hne]
        exact hq ρ' w' a' hst' hstp'
    · rename_i hne
      obtain ⟨l1, w1⟩ := hrec _ _ _ _ h
      refine ⟨l1, fun ρ w a Q hst hf hq => wp_block ?_⟩
      refine w1 ρ w a _ hst hf fun ρ' w' a' hst' hstp' => ?_
      have := hq ρ' w' a' hst' hstp'
      cases x with
      | normal => exact this
      | exit id => exact absurd h (hne _ _)
      | ret => exact this
  · rename_i c1
    obtain ⟨l1, w1⟩ := loopA_ok hrec c1 _ _ _ _ h
    exact ⟨l1, fun ρ w a Q hst hf hq => wp_loop_rounds _ (w1 ρ w a Q hst hf hq)⟩
  · cases h

/-! ### Calls -/
def CallLe (call : CallF) : Prop := ∀ f xs S n av dl n', call f xs S n = some (av, dl, n') → n ≤ n'

theorem appendA_le {sc : Bool} {ev : Operand → Option AV} {t : TypeId} {s x : Operand} {av : AV} {dl : Dl} (h : appendA P sc ev S n t s x = some (av, dl, n')) : n ≤ n' := by
  unfold appendA at h
  repeat' split at h
  all_goals first
    | (cases h; done)
    | (simp only [Option.some.injEq, Prod.mk.injEq] at h; omega)
    | (rename_i m news _ _ _
       revert h
       cases (Nat.beq _ _ && Nat.ble 1 _ && loose1 sc _ && Nat.ble 1 _ && Nat.ble _ 16777216) <;> simp <;> omega)

theorem copyA_le {sc : Bool} {ev : Operand → Option AV} {t : TypeId} {d s : Operand} {av : AV} {dl : Dl} (h : copyA P sc ev S n t d s = some (av, dl, n')) : n ≤ n' := by
  unfold copyA at h
  split at h
  · split at h
    · rename_i i _
      cases hc : Nat.beq i.size 1 with
      | false => rw [hc] at h; cases h
      | true =>
        rw [hc] at h
        simp only [cond_true] at h
        split at h
        · split at h
          · rename_i k cs _ _
            revert h
            cases (Nat.ble _ k.cells.length && loose1 sc _) <;> simp <;> omega
          · cases h
        · simp only [Option.some.injEq, Prod.mk.injEq] at h; omega
        · simp only [Option.some.injEq, Prod.mk.injEq] at h; omega
        · simp only [Option.some.injEq, Prod.mk.injEq] at h; omega
        · cases h
    · cases h
  · cases h

theorem clearA_le {sc : Bool} {ev : Operand → Option AV} {t : TypeId} {x : Operand} {av : AV} {dl : Dl} (h : clearA P sc ev S n t x = some (av, dl, n')) : n ≤ n' := by
  unfold clearA at h
  split at h
  · split at h
    · split at h
      · rename_i z _
        cases hz : z.oneCell' with
        | false => rw [hz] at h; cases h
        | true =>
          rw [hz] at h
          simp only [cond_true] at h
          split at h
          · split at h
            · rename_i b off len _ _ _ k _
              cases hc : Nat.ble 1 len with
              | false => rw [hc] at h; simp only [cond_false, Option.some.injEq, Prod.mk.injEq] at h; omega
              | true =>
                rw [hc] at h
                simp only [cond_true] at h
                revert h
                cases (Nat.ble _ k.cells.length && loose1 sc _) <;> simp <;> omega
            · cases h
          · cases h
      · cases h
    · cases h
  · cases h

theorem writeOp_le {sc : Bool} {ev : Operand → Option AV} {o : Oper} {av : AV} {dl : Dl} (h : writeOp P sc ev S n o = some (av, dl, n')) : n ≤ n' := by
  unfold writeOp at h
  split at h
  · simp only [Option.map_eq_some_iff, Prod.mk.injEq] at h
    obtain ⟨_, _, _, _, rfl⟩ := h; omega
  · split at h
    · simp only [Option.some.injEq, Prod.mk.injEq] at h; omega
    · cases h
  · unfold litSliceA at h
    split at h
    · split at h
      · rename_i i z ps _ _ _
        cases hc : (Nat.beq z.length i.size && Nat.ble (_ * i.size) 16777216 && Nat.ble _ 16777216) with
        | false => rw [hc] at h; cases h
        | true =>
          rw [hc] at h
          simp only [cond_true] at h
          split at h
          · simp only [Option.some.injEq, Prod.mk.injEq] at h; omega
          · cases h
      · cases h
    · cases h
  · unfold makeA at h
    split at h
    · split at h
      · rename_i i z l c _ _ _ _
        cases hc : (Nat.beq z.length i.size && Nat.ble l c && Nat.ble (i.bytes * c) 16777216) with
        | false => rw [hc] at h; cases h
        | true => rw [hc] at h; simp only [cond_true, Option.some.injEq, Prod.mk.injEq] at h; omega
      · cases h
    · cases h
  · split at h
    · rename_i b off y _ _
      unfold storeA at h
      split at h
      · rename_i k i _ _
        cases hc : (Nat.beq i.size y.cells.length && Nat.ble (off + y.cells.length) k.cells.length && loose1 sc ((k.cells.drop off).take y.cells.length)) with
        | false => rw [hc] at h; cases h
        | true => rw [hc] at h; simp only [cond_true, Option.some.injEq, Prod.mk.injEq] at h; omega
      · cases h
    · cases h
  · split at h
    · rename_i s x t t' _ _ _
      cases hc : Nat.beq t t' with
      | false => rw [hc] at h; cases h
      | true => rw [hc] at h; exact appendA_le h
    · exact copyA_le h
    · exact clearA_le h
    · cases h
  · cases h

theorem opA_le {sc : Bool} {call : CallF} (hc : CallLe call) : OpLe (opA P sc call) := by
  intro S n n' ev o av dl h
  have still : ∀ {x : Option AV}, x.map (fun av => (av, ([] : Dl), n)) = some (av, dl, n') → n ≤ n' := by
    intro x hx
    simp only [Option.map_eq_some_iff, Prod.mk.injEq] at hx
    obtain ⟨_, _, _, _, rfl⟩ := hx; omega
  unfold opA at h
  split at h
  · split at h
    · split at h
      · rename_i r hr
        obtain rfl := Option.some.inj h
        unfold callOp at hr
        split at hr
        · split at hr
          · exact hc _ _ _ _ _ _ _ hr
          · cases hr
        · cases hr
      · exact still h
    · exact writeOp_le h
    · exact writeOp_le h
    · exact writeOp_le h
    · exact still h
  · exact writeOp_le h
  · exact writeOp_le h
  · exact writeOp_le h
  · exact writeOp_le h
  · exact writeOp_le h
  · exact still h
end
end Go.Ev

namespace Go.Ev
open Go.RowKit
set_option linter.unusedVariables false
set_option linter.unusedSimpArgs false

theorem argsT_get : ∀ (xs : List A1) (i : Nat) (T : Tr AV) (t : Nat), (argsT i xs T).get t = if i ≤ t ∧ t < i + xs.length then (xs[t - i]?).map .v else T.get t
  | [], i, T, t => by
    rw [argsT, if_neg (by simp only [List.length_nil]; omega)]
  | x :: xs, i, T, t => by
    rw [argsT, argsT_get xs (i + 1), Tr.get_put]
    simp only [List.length_cons]
    by_cases h0 : t = i
    · subst h0
      rw [if_neg (by omega), if_pos rfl, if_pos (by omega)]
      simp
    · by_cases h1 : i + 1 ≤ t ∧ t < i + 1 + xs.length
      · rw [if_pos h1, if_pos (by omega), show t - i = (t - (i + 1)) + 1 by omega, List.getElem?_cons_succ]
      · rw [if_neg h1, if_neg h0, if_neg (by omega)]

theorem lastOf_val {f : Nat → Option Bk} : ∀ {dl : Dl}, (∀ p ∈ dl, p.2 = f p.1) → ∀ {b : Nat} {x : Option Bk}, lastOf dl b = some x → x = f b
  | [], _, b, x, h => by cases h
  | (b', k) :: r, hv, b, x, h => by
    rw [lastOf] at h
    cases hr : lastOf r b with
    | some y =>
      rw [hr] at h
      simp only [Option.some.injEq] at h
      subst h
      exact lastOf_val (fun p hp => hv p (by simp [hp])) hr
    | none =>
      rw [hr] at h
      simp only at h
      split at h
      · rename_i e; subst e
        obtain rfl := Option.some.inj h
        exact hv (b, k) (by simp)
      · cases h

theorem reach_vals {S : Tr Bk} {n : Nat} : ∀ (f : Nat) (todo : List Nat) (seen : Tr Unit) (acc : Dl), (∀ p ∈ acc, p.2 = S.get p.1) → ∀ p ∈ reach S n f todo seen acc, p.2 = S.get p.1
  | 0, todo, seen, acc, h => by unfold reach; exact h
  | f + 1, [], seen, acc, h => by unfold reach; exact h
  | f + 1, b :: r, seen, acc, h => by
    unfold reach
    cases Nat.ble (b + 1) n with
    | true => exact reach_vals f r seen acc h
    | false =>
      simp only [cond_false]
      split
      · exact reach_vals f r seen acc h
      · split
        · exact reach_vals f r seen acc h
        · rename_i k hk
          refine reach_vals f _ _ _ ?_
          intro p hp
          rcases List.mem_cons.1 hp with rfl | hp
          · exact hk.symm
          · exact h p hp

theorem mem_below {n b : Nat} : ∀ {l : List Nat}, b ∈ l → b < n → b ∈ below n l
  | c :: r, h, hb => by
    unfold below
    rcases List.mem_cons.1 h with rfl | h
    · rw [show Nat.ble (b + 1) n = true by rw [Nat.ble_eq]; exact hb]; simp
    · have := mem_below h hb
      cases Nat.ble (c + 1) n <;> simp [this]

theorem lastOf_mem {b : Nat} : ∀ {dl : Dl}, (∃ x, (b, x) ∈ dl) → lastOf dl b ≠ none
  | [], h => by obtain ⟨x, h⟩ := h; cases h
  | (b', k) :: r, ⟨x, h⟩ => by
    rw [lastOf]
    cases hr : lastOf r b with
    | some y => simp
    | none =>
      simp only
      rcases List.mem_cons.1 h with e | h
      · simp only [Prod.mk.injEq] at e; rw [if_pos e.1]; simp
      · exact absurd hr (lastOf_mem ⟨x, h⟩)

theorem callDl_sub {S S0 : Tr Bk} {n : Nat} {ov : List Nat} {av : AV} (hk : ∀ {b k}, S0.get b = some k → b < n) (hsame : ∀ b, b < n → b ∉ ov → S.get b = S0.get b) {b : Nat} {k : Bk} (h : (puts S0 (callDl S n ov av)).get b = some k) : S.get b = some k := by
  rw [get_puts] at h
  have hv : ∀ p ∈ callDl S n ov av, p.2 = S.get p.1 := by
    intro p hp
    unfold callDl at hp
    rcases List.mem_append.1 hp with hp | hp
    · obtain ⟨c, _, rfl⟩ := List.mem_map.1 hp; rfl
    · exact reach_vals _ _ _ _ (fun p hp => by cases hp) p hp
  cases hl : lastOf (callDl S n ov av) b with
  | some x =>
    rw [hl] at h
    simp only [Option.getD_some] at h
    rw [← h]
    exact (lastOf_val hv hl).symm
  | none =>
    rw [hl] at h
    simp only [Option.getD_none] at h
    have hb := hk h
    by_cases ho : b ∈ ov
    · exfalso
      refine lastOf_mem (dl := callDl S n ov av) (b := b) ⟨S.get b, ?_⟩ hl
      unfold callDl
      exact List.mem_append_left _ (List.mem_map.2 ⟨b, mem_below ho hb, rfl⟩)
    · rw [hsame b hb ho]; exact h

section
variable {M : Dom} {B : Nat} {P : Program} {ρ ρ' : Env} {w w' : World} {n n' : Nat}

theorem enter_ok {f : FuncId} {fn : Func} (hf : P.funcs[f]? = some fn) (hn : (fn.name == "runtime.NumGoroutine") = false) (hb : fn.body.isSome = true) : EnterOK P f := by
  intro args w
  have hb' : fn.body.isNone = false := by cases h : fn.body <;> simp_all
  unfold callFunc
  simp only [Sem.run_bind, run_program, Result.andThen_ok, hf, hn, Bool.false_eq_true, if_false, hb', Sem.run_pure]

def resOf (tmps : Array Value) : ResultVar → Sem Value
  | .tmp t => pure (tmps.getD t undef)
  | .cell a t => do loadVar t (← asAddr (tmps.getD a undef))

theorem results_eq (fn : Func) (tmps : Array Value) : results fn tmps = (do let vs ← fn.results.mapM (resOf tmps); pure (if h : vs.size = 1 then vs[0] else .tuple vs)) := by
  unfold results
  congr 1

theorem resultA_ok {T : Tr AV} {S : Tr Bk} {tmps : Array Value} (hT : ∀ t, ((T.get t).getD (.tup [])).rel M ρ w (tmps.getD t undef)) (hS : SRel M B ρ w S) : ∀ {rs : List ResultVar} {xs : List A1}, resultA P T S rs = some xs →
    ∃ vs, (rs.mapM (resOf tmps)).run P w = .ok vs w ∧ rel1s M ρ w xs vs
  | [], xs, h => by
    simp only [resultA, Option.some.injEq] at h
    subst h
    exact ⟨[], rfl, trivial⟩
  | .tmp t :: r, xs, h => by
    unfold resultA at h
    split at h
    · rename_i x ys hx hr
      obtain rfl := Option.some.inj h
      obtain ⟨vs, h1, h2⟩ := resultA_ok hT hS hr
      have := hT t
      rw [hx] at this
      exact ⟨tmps.getD t undef :: vs, by simp [List.mapM_cons, h1, resOf], this, h2⟩
    · cases h
  | .cell a ty :: r, xs, h => by
    unfold resultA at h
    split at h
    · rename_i b off ys hx hr
      split at h
      · rename_i x hl
        obtain rfl := Option.some.inj h
        obtain ⟨vs, h1, h2⟩ := resultA_ok hT hS hr
        have ha := hT a
        rw [hx] at ha
        obtain ⟨p, hp, ha⟩ := ha
        obtain ⟨p', hp', v, hv, hvr⟩ := loadA_ok (P := P) hS hl
        obtain rfl : p = p' := Option.some.inj (hp.symm.trans hp')
        exact ⟨v :: vs, by simp [List.mapM_cons, h1, resOf, ha, asAddr, hv], hvr, h2⟩
      · cases h
    · cases h

theorem results_ok {fn : Func} {T : Tr AV} {S : Tr Bk} {tmps : Array Value} (hT : ∀ t, ((T.get t).getD (.tup [])).rel M ρ w (tmps.getD t undef)) (hS : SRel M B ρ w S) {xs : List A1} (h : resultA P T S fn.results.toList = some xs) :
    ∃ v, (results fn tmps).run P w = .ok v w ∧ (results1 xs).rel M ρ w v := by
  obtain ⟨vs, h1, h2⟩ := resultA_ok (P := P) hT hS h
  have hrun : (results fn tmps).run P w = .ok (if h : vs.toArray.size = 1 then vs.toArray[0] else .tuple vs.toArray) w := by
    rw [results_eq, Array.mapM_eq_mapM_toList]
    simp only [Sem.run_bind, Sem.run_map, h1, Result.andThen_ok, Sem.run_pure]
  refine ⟨_, hrun, ?_⟩
  have hlen := h2.length
  match xs, vs, h2, hlen with
  | [], [], _, _ => exact ⟨[], rfl, trivial⟩
  | [x], [v], h2, _ => exact h2.1
  | x :: y :: r, u :: v :: s, h2, _ => exact ⟨u :: v :: s, by simp, h2⟩

structure CxOK (M : Dom) (B : Nat) (cx : Cx) : Prop where
  strict : cx.strict = M.strict
  tab : ∀ {f fn}, cx.tab f = some fn → cx.P.funcs[f]? = some fn ∧ (fn.name == "runtime.NumGoroutine") = false ∧ fn.body.isSome = true
  orcLe : CallLe cx.orc
  orc : ∀ {f xs S n av dl n'}, cx.orc f xs S n = some (av, dl, n') → ∀ ρ w vs, SRel M B ρ w S → B ≤ w.heap.size → (∀ {b k}, S.get b = some k → b < n) → Free ρ n n' → rel1s M ρ w xs vs →
    Calls cx.P f vs.toArray w fun e w' => ∃ v ρ', e = .returned v ∧ av.rel M ρ' w' v ∧ Tn M B ρ w S n ρ' w' (puts S dl) n'
  hookLe : OpLe cx.hook
  hook : OpOK M B cx.P cx.hook

theorem noHook_le : OpLe noHook := fun h => by cases h
theorem noHook_ok : OpOK M B P noHook := fun _ _ _ _ _ h => by cases h
theorem opH_le {opf hook : OpF} (h : OpLe opf) (k : OpLe hook) : OpLe (opH opf hook) := by
  intro S n n' ev o av dl hh
  unfold opH at hh
  split at hh
  · rename_i r hr
    obtain rfl := Option.some.inj hh
    exact h hr
  · exact k hh
theorem opH_ok {opf hook : OpF} (h : OpOK M B P opf) (k : OpOK M B P hook) : OpOK M B P (opH opf hook) := by
  intro ρ w S n n' ev a o av dl he hS hB hk hf hh next Q hn
  unfold opH at hh
  split at hh
  · rename_i r hr
    obtain rfl := Option.some.inj hh
    exact h he hS hB hk hf hr hn
  · exact k he hS hB hk hf hh hn

theorem callA_le {cx : Cx} (hcx : CxOK M B cx) {rec : Nat → Code → St → Option (AX × St)} (hrec : ∀ sz, CodeOK M B cx.P sz (rec sz)) : CallLe (callA cx rec) := by
  intro f xs S n av dl n' h
  unfold callA at h
  split at h
  · cases h
  · split at h
    · rename_i r hr
      obtain rfl := Option.some.inj h
      exact hcx.orcLe _ _ _ _ _ _ _ hr
    · split at h
      · cases h
      · split at h
        · cases h
        · rename_i st _ hst
          split at h
          · simp only [Option.some.injEq, Prod.mk.injEq] at h
            obtain ⟨_, _, rfl⟩ := h
            exact (hrec _ _ _ _ _ hst).1
          · cases h
        · cases h

theorem callA_ok {cx : Cx} (hcx : CxOK M B cx) {rec : Nat → Code → St → Option (AX × St)} (hrec : ∀ sz, CodeOK M B cx.P sz (rec sz)) : CallOK M B cx.P (callA cx rec) := by
  intro f xs S n av dl n' h
  unfold callA at h
  split at h
  · cases h
  · rename_i fn hfn
    obtain ⟨hf, hnm, hbs⟩ := hcx.tab hfn
    refine ⟨enter_ok hf hnm hbs, ?_⟩
    split at h
    · rename_i r hr
      obtain rfl := Option.some.inj h
      exact hcx.orc hr
    · split at h
      · cases h
      · rename_i c hc
        split at h
        · cases h
        · rename_i x st hne hst
          split at h
          · rename_i rs hrs
            simp only [Option.some.injEq, Prod.mk.injEq] at h
            obtain ⟨rfl, rfl, rfl⟩ := h
            intro ρ w vs hS hB hk hfr hvs
            have hlen := hvs.length
            have hstart : StRel M B ρ w ⟨argsT 0 xs .e, S, n, []⟩ (xs.length + (fn.ntmps - xs.length)) { tmps := vs.toArray ++ Array.replicate (fn.ntmps - vs.toArray.size) undef, defers := [] } := by
              refine ⟨fun t => ?_, by simp [hlen], rfl, hS, hB, hk⟩
              show (((argsT 0 xs .e).get t).getD (.tup [])).rel M ρ w _
              rw [argsT_get]
              by_cases ht : t < xs.length
              · rw [if_pos (by omega)]
                have hx : (xs[t]?).isSome = true := by simp [ht]
                obtain ⟨x, hx⟩ := Option.isSome_iff_exists.1 hx
                obtain ⟨v, hv, hr⟩ := hvs.get hx
                simp only [Nat.sub_zero, hx, Option.map_some, Option.getD_some]
                rw [Array.getD_eq_getD_getElem?, Array.getElem?_append_left (by simp; omega), List.getElem?_toArray, hv]
                exact hr
              · rw [if_neg (by omega), Tr.get_e]
                have e : (vs.toArray ++ Array.replicate (fn.ntmps - vs.toArray.size) undef).getD t undef = undef := by
                  rw [Array.getD_eq_getD_getElem?, Array.getElem?_append_right (by simp; omega), Array.getElem?_replicate]
                  split <;> rfl
                simp only at e ⊢
                rw [e]
                exact ⟨[], rfl, trivial⟩
            obtain ⟨_, hwp⟩ := hrec _ _ _ _ _ hst
            refine calls_of_wp hf hc (hwp ρ w _ _ hstart hfr ?_)
            intro ρ' w' a' hst' hstp
            obtain ⟨v, hv, hvr⟩ := results_ok (P := cx.P) hst'.T hst'.S hrs
            have hfin : a'.defers = [] ∧ ∃ v, (results fn a'.tmps).run cx.P w' = .ok v w' ∧ ∃ v' ρ'', Ending.returned v = .returned v' ∧ (results1 rs).rel M ρ'' w' v' ∧ Tn M B ρ w S n ρ'' w' (puts S (callDl st.S n st.ov (results1 rs))) st.n := by
              refine ⟨hst'.defers, v, hv, v, ρ', rfl, hvr, hstp.tn.less ?_⟩
              intro b k hb
              exact callDl_sub hk (fun b hb hn => hstp.same b hb hn) hb
            cases x with
            | normal => exact hfin
            | ret => exact hfin
            | exit id => exact absurd rfl (hne id)
          · cases h
        · cases h

theorem evalCode_ok {cx : Cx} (hcx : CxOK M B cx) (hdraw : ∀ {opf : OpF}, OpOK M B cx.P opf → OpLe opf → DrawOK M B cx.P opf) : ∀ (k sz : Nat), CodeOK M B cx.P sz (evalCode cx k sz)
  | 0, sz => by intro c st x st' h; cases h
  | k + 1, sz => by
    have ih := evalCode_ok hcx hdraw k
    have hle : OpLe (opA cx.P cx.strict (callA cx (evalCode cx k))) := opA_le (callA_le hcx ih)
    have hok : OpOK M B cx.P (opA cx.P cx.strict (callA cx (evalCode cx k))) := by
      intro ρ w S n n' ev a o av dl he hS hB hk hf h next Q hn
      rw [hcx.strict] at h
      exact opA_wp (callA_ok hcx ih) he hS hB hk hf h hn
    exact codeA_ok (opH_ok hok hcx.hook) (opH_le hle hcx.hookLe) (hdraw (opH_ok hok hcx.hook) (opH_le hle hcx.hookLe)) (ih sz)
end
end Go.Ev
