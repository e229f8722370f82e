/- A reader of closed calls: operations in a row, code, calls are what they say. -/
import Derived.Test.YtcccejhkblnonaaGreatXEV8
namespace Go.Ev
open Go.RowKit
set_option linter.unusedVariables false
set_option linter.unusedSimpArgs false

def lastOf : Dl → Nat → Option (Option Bk)
  | [], _ => none
  | (b', k) :: r, b => match lastOf r b with
    | some x => some x
    | none => if b = b' then some k else none

theorem get_puts : ∀ (dl : Dl) (S : Tr Bk) (b : Nat), (puts S dl).get b = (lastOf dl b).getD (S.get b)
  | [], S, b => rfl
  | (b', k) :: r, S, b => by
    rw [puts, get_puts r, lastOf, Tr.get_put]
    cases lastOf r b with
    | some x => rfl
    | none => split <;> simp_all

theorem mem_overs {n b : Nat} : ∀ {dl : Dl}, lastOf dl b ≠ none → b < n → b ∈ overs n dl
  | [], h, _ => absurd rfl h
  | (b', k) :: r, h, hn => by
    have ih := mem_overs (n := n) (b := b) (dl := r)
    unfold overs
    rw [lastOf] at h
    by_cases hr : lastOf r b = none
    · rw [hr] at h
      simp only at h
      have hb : b = b' := by
        by_cases e : b = b'
        · exact e
        · rw [if_neg e] at h; exact absurd rfl h
      subst hb
      have : Nat.ble (b + 1) n = true := by rw [Nat.ble_eq]; exact hn
      rw [this]
      simp
    · have := ih hr hn
      cases Nat.ble (b' + 1) n <;> simp [this]

theorem puts_same {S : Tr Bk} {dl : Dl} {n b : Nat} (hb : b < n) (h : b ∉ overs n dl) : (puts S dl).get b = S.get b := by
  rw [get_puts]
  cases hl : lastOf dl b with
  | none => rfl
  | some x => exact absurd (mem_overs (by rw [hl]; simp) hb) h

section
variable {M : Dom} {B : Nat} {P : Program} {ρ ρ' : Env} {w w' : World} {S : Tr Bk} {n n' : Nat}

def EnterOK (P : Program) (f : FuncId) : Prop := ∀ args w, (callFunc f args).run P w = .ok (.enter f args) w

def CallOK (M : Dom) (B : Nat) (P : Program) (call : CallF) : Prop := ∀ f xs S n av dl n', call f xs S n = some (av, dl, n') →
  EnterOK P f ∧ ∀ ρ w vs, SRel M B ρ w S → B ≤ w.heap.size → (∀ {b k}, S.get b = some k → b < n) → Free ρ n n' → rel1s M ρ w xs vs →
    Calls P f vs.toArray w fun e w' => ∃ v ρ', e = .returned v ∧ av.rel M ρ' w' v ∧ Tn M B ρ w S n ρ' w' (puts S dl) n'

theorem rel1s.append {cs cs' : List A1} : ∀ {us us' : List Value}, rel1s M ρ w cs us → rel1s M ρ w cs' us' → rel1s M ρ w (cs ++ cs') (us ++ us') := by
  induction cs with
  | nil => intro us us' h h'; cases us with | nil => exact h' | cons u us => exact h.elim
  | cons c cs ih =>
    intro us us' h h'
    cases us with
    | nil => exact h.elim
    | cons u us => exact ⟨h.1, ih h.2 h'⟩

theorem argsA_ok {ev : Operand → Option AV} {ρa : Operand → Value} (he : EvRel M ρ w ev ρa) : ∀ {xs : List Operand} {ys : List A1}, argsA ev xs = some ys → rel1s M ρ w ys (xs.map ρa)
  | [], ys, h => by simp [argsA] at h; subst h; trivial
  | x :: r, ys, h => by
    unfold argsA at h
    split at h
    · rename_i y ys' hx hr
      obtain rfl := Option.some.inj h
      exact ⟨he _ _ hx, argsA_ok he hr⟩
    · cases h

theorem still_wp {ev : Operand → Option AV} {a : Act} {o : Oper} {av : AV} {dl : Dl} (he : EvRel M ρ w ev a.eval) (hS : SRel M B ρ w S) (hk : ∀ {b k}, S.get b = some k → b < n)
    (h : (stillOp P ev S o).map (fun av => (av, ([] : Dl), n)) = some (av, dl, n')) {next : Act → World → Prop} {Q : Exit → Act → World → Prop}
    (hn : ∀ v w' ρ', av.rel M ρ' w' v → Tn M B ρ w S n ρ' w' (puts S dl) n' → next (a.put o.dst v) w') : o.wp P a w next Q := by
  simp only [Option.map_eq_some_iff, Prod.mk.injEq] at h
  obtain ⟨av', h, rfl, rfl, rfl⟩ := h
  obtain ⟨v, hv, hr⟩ := stillOp_ok hS he h
  unfold Oper.wp
  rw [hv]
  exact hn v w ρ hr (Tn.refl hS n hk)

theorem write_wp {ev : Operand → Option AV} {a : Act} {o : Oper} {av : AV} {dl : Dl} (he : EvRel M ρ w ev a.eval) (hS : SRel M B ρ w S) (hB : B ≤ w.heap.size) (hk : ∀ {b k}, S.get b = some k → b < n) (hf : Free ρ n n')
    (h : writeOp P M.strict ev S n o = some (av, dl, n')) {next : Act → World → Prop} {Q : Exit → Act → World → Prop}
    (hn : ∀ v w' ρ', av.rel M ρ' w' v → Tn M B ρ w S n ρ' w' (puts S dl) n' → next (a.put o.dst v) w') : o.wp P a w next Q := by
  obtain ⟨x, v, w', ρ', hx, hnx, hr, hT⟩ := writeOp_ok he hS hB hk h hf
  unfold Oper.wp
  rw [hx]
  rcases hnx with rfl | ⟨rfl, rfl⟩
  · exact hn v w' ρ' hr hT
  · exact hn undef w' ρ' hr hT

theorem call_wp {call : CallF} (hc : CallOK M B P call) {ev : Operand → Option AV} {a : Act} {o : Oper} {c : Call} {f : Operand} {av : AV} {dl : Dl} (hop : o.op = .call c) (hcc : c.callee = .value f)
    (he : EvRel M ρ w ev a.eval) (hS : SRel M B ρ w S) (hB : B ≤ w.heap.size) (hk : ∀ {b k}, S.get b = some k → b < n) (hf : Free ρ n n')
    (h : callOp call ev S n f c.args.toList = some (av, dl, n')) {next : Act → World → Prop} {Q : Exit → Act → World → Prop}
    (hn : ∀ v w' ρ', av.rel M ρ' w' v → Tn M B ρ w S n ρ' w' (puts S dl) n' → next (a.put o.dst v) w') : o.wp P a w next Q := by
  unfold callOp at h
  split at h
  · rename_i g first captured xs hg hx
    split at h
    · rename_i fs cs hfs hcs
      obtain ⟨hen, hcall⟩ := hc _ _ _ _ _ _ _ h
      have hg' : a.eval f = .func (.func g) first captured := (he _ _ hg).1
      have hxs : rel1s M ρ w (fs ++ (xs ++ cs)) (first.toList ++ (c.args.toList.map a.eval ++ captured.toList)) := (ofV1s_rel hfs).append ((argsA_ok he hx).append (ofV1s_rel hcs))
      have hrun : (execOp a.eval o).run P w = .ok (.enter g (first ++ c.args.map a.eval ++ captured)) w := by
        unfold execOp
        rw [hop]
        simp only [resolve, hcc, hg', Deferred.ofValue, Sem.run_bind, Sem.run_pure, Result.andThen_ok, invoke]
        exact hen _ w
      unfold Oper.wp
      rw [hrun]
      have hC := hcall ρ w _ hS hB hk hf hxs
      rw [show (first.toList ++ (c.args.toList.map a.eval ++ captured.toList)).toArray = first ++ c.args.map a.eval ++ captured by apply Array.ext'; simp] at hC
      refine Calls.mono hC ?_
      rintro e w' ⟨v, ρ', rfl, hr, hT⟩
      exact hn v w' ρ' hr hT
    · cases h
  · cases h

theorem opA_wp {call : CallF} (hc : CallOK M B P call) {ev : Operand → Option AV} {a : Act} {o : Oper} {av : AV} {dl : Dl} (he : EvRel M ρ w ev a.eval) (hS : SRel M B ρ w S) (hB : B ≤ w.heap.size)
    (hk : ∀ {b k}, S.get b = some k → b < n) (hf : Free ρ n n') (h : opA P M.strict call ev S n o = some (av, dl, n')) {next : Act → World → Prop} {Q : Exit → Act → World → Prop}
    (hn : ∀ v w' ρ', av.rel M ρ' w' v → Tn M B ρ w S n ρ' w' (puts S dl) n' → next (a.put o.dst v) w') : o.wp P a w next Q := by
  unfold opA at h
  split at h
  · rename_i c hop
    split at h
    · rename_i f hcc
      split at h
      · rename_i r hr
        obtain rfl := Option.some.inj h
        exact call_wp hc hop hcc he hS hB hk hf hr hn
      · simp only [Option.map_eq_some_iff, Prod.mk.injEq] at h
        obtain ⟨av', h, rfl, rfl, rfl⟩ := h
        obtain ⟨v, hv, hr⟩ := litOp_ok (w := w) he h
        unfold Oper.wp
        rw [hv]
        exact hn v w ρ hr (Tn.refl hS n hk)
    · exact write_wp he hS hB hk hf h hn
    · exact write_wp he hS hB hk hf h hn
    · exact write_wp he hS hB hk hf h hn
    · exact still_wp he hS hk h hn
  · exact write_wp he hS hB hk hf h hn
  · exact write_wp he hS hB hk hf h hn
  · exact write_wp he hS hB hk hf h hn
  · exact write_wp he hS hB hk hf h hn
  · exact write_wp he hS hB hk hf h hn
  · exact still_wp he hS hk h hn

/-- What opf says of an operation is so. -/
def OpOK (M : Dom) (B : Nat) (P : Program) (opf : OpF) : Prop := ∀ {ρ : Env} {w : World} {S : Tr Bk} {n n' : Nat} {ev : Operand → Option AV} {a : Act} {o : Oper} {av : AV} {dl : Dl},
  EvRel M ρ w ev a.eval → SRel M B ρ w S → B ≤ w.heap.size → (∀ {b k}, S.get b = some k → b < n) → Free ρ n n' → opf ev S n o = some (av, dl, n') →
  ∀ {next : Act → World → Prop} {Q : Exit → Act → World → Prop}, (∀ v w' ρ', av.rel M ρ' w' v → Tn M B ρ w S n ρ' w' (puts S dl) n' → next (a.put o.dst v) w') → o.wp P a w next Q
/-- The numbers only grow. -/
def OpLe (opf : OpF) : Prop := ∀ {S : Tr Bk} {n n' : Nat} {ev : Operand → Option AV} {o : Oper} {av : AV} {dl : Dl}, opf ev S n o = some (av, dl, n') → n ≤ n'

structure StRel (M : Dom) (B : Nat) (ρ : Env) (w : World) (st : St) (sz : Nat) (a : Act) : Prop where
  T : ∀ t, ((st.T.get t).getD (.tup [])).rel M ρ w (a.tmps.getD t undef)
  size : a.tmps.size = sz
  defers : a.defers = []
  S : SRel M B ρ w st.S
  hB : B ≤ w.heap.size
  keys : ∀ {b k}, st.S.get b = some k → b < st.n

structure Stp (M : Dom) (B : Nat) (ρ : Env) (w : World) (st : St) (ρ' : Env) (w' : World) (st' : St) : Prop where
  tn : Tn M B ρ w st.S st.n ρ' w' st'.S st'.n
  ov : ∀ b, b ∈ st.ov → b ∈ st'.ov
  same : ∀ b, b < st.n → b ∉ st'.ov → st'.S.get b = st.S.get b

theorem Stp.refl {st : St} (h : SRel M B ρ w st.S) (hk : ∀ {b k}, st.S.get b = some k → b < st.n) : Stp M B ρ w st ρ w st := ⟨Tn.refl h _ hk, fun _ h => h, fun _ _ _ => rfl⟩
theorem Stp.trans {ρ'' : Env} {w'' : World} {st st' st'' : St} (h : Stp M B ρ w st ρ' w' st') (k : Stp M B ρ' w' st' ρ'' w'' st'') : Stp M B ρ w st ρ'' w'' st'' :=
  ⟨h.tn.trans k.tn, fun b hb => k.ov b (h.ov b hb), fun b hb hn => by
    rw [k.same b (Nat.lt_of_lt_of_le hb h.tn.le) hn, h.same b hb (fun hh => hn (k.ov b hh))]⟩

theorem evO_rel {T : Tr AV} {a : Act} (h : ∀ t, ((T.get t).getD (.tup [])).rel M ρ w (a.tmps.getD t undef)) : EvRel M ρ w (evO T) a.eval := by
  intro x av hx
  cases x with
  | tmp t => simp only [evO, Option.some.injEq] at hx; subst hx; exact h t
  | const v => exact ofValue_rel hx
  | global g => simp only [evO, Option.some.injEq] at hx; subst hx; exact ⟨rfl, rfl⟩
  | func f => simp only [evO, Option.some.injEq] at hx; subst hx; exact ⟨rfl, rfl⟩

theorem putT_ok {sz : Nat} {T T' : Tr AV} {dst : Option Tmp} {av : AV} {a : Act} {v : Value} (hs : a.tmps.size = sz) (h : putT sz T dst av = some T') (hT : ∀ t, ((T.get t).getD (.tup [])).rel M ρ w (a.tmps.getD t undef)) (hv : av.rel M ρ w v) :
    (∀ t, ((T'.get t).getD (.tup [])).rel M ρ w ((a.put dst v).tmps.getD t undef)) ∧ (a.put dst v).tmps.size = sz := by
  unfold putT at h
  cases dst with
  | none => simp only [Option.some.injEq] at h; subst h; exact ⟨hT, hs⟩
  | some d =>
    simp only at h
    cases hc : Nat.ble (d + 1) sz with
    | false => rw [hc] at h; simp at h
    | true =>
      rw [hc] at h
      simp only [cond_true, Option.some.injEq] at h
      subst h
      have hlt : d < a.tmps.size := by rw [hs]; exact Nat.le_of_ble_eq_true hc
      refine ⟨fun t => ?_, by simpa [Act.put] using hs⟩
      rw [Tr.get_put]
      by_cases e : t = d
      · subst e
        rw [if_pos rfl]
        simp only [Option.getD_some, Act.put]
        rw [Array.getD_eq_getD_getElem?, Array.getElem?_setIfInBounds_self_of_lt hlt]
        exact hv
      · rw [if_neg e]
        have := hT t
        simp only [Act.put]
        rw [Array.getD_eq_getD_getElem?, Array.getElem?_setIfInBounds_ne (Ne.symm e), ← Array.getD_eq_getD_getElem?]
        exact this

theorem put_defers (a : Act) (dst : Option Tmp) (v : Value) : (a.put dst v).defers = a.defers := by cases dst <;> rfl

/-- What is asked of an operation's guard. -/
theorem wantedA_ok {all : Array Oper} {ev : Operand → Option AV} {a : Act} {o : Oper} {b : Bool} (he : EvRel M ρ w ev a.eval) (h : wantedA all ev o = some b) : Region.wanted o (yielded all a.tmps) = b := by
  unfold wantedA at h
  unfold Region.wanted
  split at h
  · rename_i hg; rw [hg]; exact Option.some.inj h
  · rename_i j want hg
    rw [hg]
    simp only
    unfold yielded
    split at h
    · rename_i hd
      rw [hd]
      simpa using h
    · rename_i t hd
      rw [hd]
      simp only [Option.bind_some]
      split at h
      · rename_i b' hx
        have hr : a.eval (.tmp t) = .bool b' := (he _ _ hx).1
        have hr' : a.tmps[t]? = some (.bool b') := by
          simp only [Act.eval, Array.getD_eq_getD_getElem?] at hr
          cases ht : a.tmps[t]? with
          | none => rw [ht] at hr; simp [undef] at hr
          | some v => rw [ht] at hr; simpa using hr
        rw [hr']
        simpa using h
      · rename_i hx
        have hr : a.eval (.tmp t) = .tuple #[] := by
          obtain ⟨us, h1, h2⟩ := he _ _ hx
          cases us with
          | nil => exact h1
          | cons u us => exact h2.elim
        simp only [Act.eval, Array.getD_eq_getD_getElem?] at hr
        cases ht : a.tmps[t]? with
        | none => simpa using h
        | some v => rw [ht] at hr; simp only [Option.getD_some] at hr; subst hr; simpa using h
      · cases h

theorem seqOps_le {opf : OpF} (hle : OpLe opf) {sz : Nat} {all : Array Oper} : ∀ {l : List Oper} {st st' : St}, seqOps opf sz all l st = some st' → st.n ≤ st'.n
  | [], st, st', h => by simp only [seqOps, Option.some.injEq] at h; subst h; exact Nat.le_refl _
  | o :: r, st, st', h => by
    unfold seqOps at h
    split at h
    · split at h
      · rename_i av dl n' hop
        split at h
        · exact Nat.le_trans (hle hop) (seqOps_le hle h)
        · cases h
      · cases h
    · split at h
      · have := seqOps_le hle h; exact this
      · cases h
    · cases h

theorem seqOps_wp {opf : OpF} (hok : OpOK M B P opf) (hle : OpLe opf) {sz : Nat} {all : Array Oper} {Q : Exit → Act → World → Prop} : ∀ {l : List Oper} {st st' : St} {ρ : Env} {w : World} {a : Act}, seqOps opf sz all l st = some st' → StRel M B ρ w st sz a → Free ρ st.n st'.n →
    (∀ ρ' w' a', StRel M B ρ' w' st' sz a' → Stp M B ρ w st ρ' w' st' → Q .normal a' w') → wpList P all Q l a w
  | [], st, st', ρ, w, a, h, hst, hf, hq => by
    simp only [seqOps, Option.some.injEq] at h
    subst h
    exact hq ρ w a hst (Stp.refl hst.S hst.keys)
  | o :: r, st, st', ρ, w, a, h, hst, hf, hq => by
    have he := evO_rel hst.T
    unfold seqOps at h
    unfold wpList
    split at h
    · rename_i hw
      rw [if_pos (wantedA_ok he hw)]
      split at h
      · rename_i av dl n' hop
        split at h
        · rename_i T' hT'
          have hn1 := hle hop
          have hn2 := seqOps_le hle h
          simp only at hn2
          refine .inl (hok he hst.S hst.hB hst.keys (hf.sub (Nat.le_refl _) hn2) hop fun v w' ρ' hr hT => ?_)
          have up := hT.up (hf.sub (Nat.le_refl _) hn2)
          obtain ⟨hT2, hs2⟩ := putT_ok hst.size hT' (fun t => (hst.T t).mono up hT.fr.kept) hr
          have hstp : Stp M B ρ w st ρ' w' ⟨T', puts st.S dl, n', overs st.n dl ++ st.ov⟩ :=
            ⟨hT, fun b hb => by simp [hb], fun b hb hnb => puts_same hb (by simp at hnb; exact hnb.1)⟩
          refine seqOps_wp hok hle h ⟨hT2, hs2, by rw [put_defers]; exact hst.defers, hT.rel, Nat.le_trans hst.hB hT.fr.kept.size, hT.keys⟩ (hT.free (hf.sub hn1 (Nat.le_refl _)) (.inr (Nat.le_refl _))) ?_
          intro ρ2 w2 a2 hst2 hstp2
          exact hq ρ2 w2 a2 hst2 (hstp.trans hstp2)
        · cases h
      · cases h
    · rename_i hw
      rw [if_neg (by rw [wantedA_ok he hw]; simp)]
      split at h
      · rename_i T' hT'
        obtain ⟨hT2, hs2⟩ := putT_ok (v := undef) hst.size hT' hst.T ⟨[], rfl, trivial⟩
        exact seqOps_wp hok hle h ⟨hT2, hs2, by rw [put_defers]; exact hst.defers, hst.S, hst.hB, hst.keys⟩ hf (fun ρ2 w2 a2 h1 h2 => hq ρ2 w2 a2 h1 ⟨h2.tn, h2.ov, h2.same⟩)
      · cases h
    · cases h
end
end Go.Ev
