/- A reader of closed calls: what a region that draws its order comes to. -/
/- A reader of closed calls: what stands of a region that draws its order, whatever comes up next. -/
import Derived.Test.YtcfhajnboamnnabGreatDoorYXEV10
namespace Go.Ev
open Go.RowKit
set_option linter.unusedVariables false
set_option linter.unusedSimpArgs false

/-! ### A region by an invariant -/
theorem count_set {l : List Bool} {i : Nat} (h : l[i]? = some false) : (l.set i true).countP (· == false) + 1 = l.countP (· == false) := by
  induction l generalizing i with
  | nil => simp at h
  | cons x xs ih =>
    cases i with
    | zero =>
      simp at h
      subst h
      simp
    | succ i =>
      simp at h
      have := ih h
      simp only [List.set_cons_succ, List.countP_cons]
      omega

theorem wpAny_inv {P : Program} {ops : Array Oper} {Q : Exit → Act → World → Prop} {md : Region.Mode} (I : Array Bool → Act → World → Prop)
    (hsz : ∀ listed a w, I listed a w → listed.size = ops.size)
    (hac : ∀ (i : Nat) (o : Oper), ops[i]? = some o → ∀ e ∈ o.after, Region.binds md e = true → e.on < i)
    (hstep : ∀ listed a w (i : Nat), I listed a w → i ∈ Region.ready md ops listed → wpOp P ops Q i (I (listed.setIfInBounds i true)) a w)
    (hdone : ∀ listed a w, I listed a w → (∀ i, i < ops.size → listed.getD i true = true) → Q .normal a w) :
    ∀ (fuel : Nat) listed a w, I listed a w → listed.toList.countP (· == false) ≤ fuel → wpAny P md ops Q fuel listed a w := by
  have hall : ∀ listed a w, I listed a w → Region.ready md ops listed = [] → ∀ i, i < ops.size → listed.getD i true = true := by
    intro listed a w hI hr i
    induction i using Nat.strongRecOn with
    | ind i ih =>
      intro hi
      cases hb : listed.getD i true with
      | true => rfl
      | false =>
        exfalso
        have hm : i ∈ Region.ready md ops listed := by
          rw [mem_ready]
          refine ⟨hb, ops[i], by simp [hi], fun e he hbd => ?_⟩
          have h1 := hac i ops[i] (by simp [hi]) e he hbd
          have h2 := ih e.on h1 (by omega)
          have hs := hsz listed a w hI
          rw [Array.getD_eq_getD_getElem?] at h2 ⊢
          have hlt : e.on < listed.size := by omega
          simp [hlt] at h2 ⊢
          exact h2
        rw [hr] at hm
        cases hm
  have hless : ∀ (listed : Array Bool) (i : Nat), listed.getD i true = false → (listed.setIfInBounds i true).toList.countP (· == false) + 1 = listed.toList.countP (· == false) := by
    intro listed i h
    rw [Array.getD_eq_getD_getElem?] at h
    rcases Nat.lt_or_ge i listed.size with hlt | hge
    · simp [hlt] at h
      rw [Array.toList_setIfInBounds]
      exact count_set (by simp [hlt, h])
    · simp [Array.getElem?_eq_none hge] at h
  intro fuel
  induction fuel with
  | zero =>
    intro listed a w hI hc
    have h0 : Region.ready md ops listed = [] := by
      cases hr : Region.ready md ops listed with
      | nil => rfl
      | cons i rs =>
        exfalso
        have hm : i ∈ Region.ready md ops listed := by rw [hr]; simp
        have := hless listed i (mem_ready.1 hm).1
        omega
    exact ⟨h0, hdone _ _ _ hI (hall _ _ _ hI h0)⟩
  | succ fuel ih =>
    intro listed a w hI hc
    refine ⟨fun h0 => hdone _ _ _ hI (hall _ _ _ hI h0), fun i hi => ?_⟩
    refine wpOp_mono (fun a' w' h' => ih _ _ _ h' ?_) (hstep listed a w i hI hi)
    have := hless listed i (mem_ready.1 hi).1
    omega

/-! ### The last of a row -/
def lst {α : Type} (f : Nat → Option α) : Nat → Option α
  | 0 => none
  | k + 1 => match f k with
    | some x => some x
    | none => lst f k

theorem lst_congr {α : Type} {f g : Nat → Option α} : ∀ {k : Nat}, (∀ i, i < k → f i = g i) → lst f k = lst g k
  | 0, _ => rfl
  | k + 1, h => by
    unfold lst
    rw [h k (by omega), lst_congr (fun i hi => h i (by omega))]

theorem lst_above {α : Type} {f : Nat → Option α} {j : Nat} : ∀ {k : Nat}, j ≤ k → (∀ i, j ≤ i → i < k → f i = none) → lst f k = lst f j
  | 0, h, _ => by
    have e : j = 0 := by omega
    subst e; rfl
  | k + 1, h, hn => by
    by_cases e : j = k + 1
    · subst e; rfl
    · show (match f k with | some x => some x | none => lst f k) = lst f j
      rw [hn k (by omega) (by omega)]
      exact lst_above (by omega) (fun i h1 h2 => hn i h1 (by omega))

theorem lst_at {α : Type} {f : Nat → Option α} {j k : Nat} {x : α} (hj : j < k) (hx : f j = some x) (hn : ∀ i, j < i → i < k → f i = none) : lst f k = some x := by
  rw [lst_above (j := j + 1) (by omega) (fun i h1 h2 => hn i (by omega) h2)]
  unfold lst
  rw [hx]

theorem lst_some {α : Type} {f : Nat → Option α} : ∀ {k : Nat} {x : α}, lst f k = some x → ∃ i, i < k ∧ f i = some x
  | 0, x, h => by cases h
  | k + 1, x, h => by
    unfold lst at h
    cases hf : f k with
    | some y => rw [hf] at h; exact ⟨k, by omega, by rw [hf]; exact h⟩
    | none =>
      rw [hf] at h
      obtain ⟨i, h1, h2⟩ := lst_some h
      exact ⟨i, by omega, h2⟩

theorem lst_none {α : Type} {f : Nat → Option α} : ∀ {k : Nat}, (∀ i, i < k → f i = none) → lst f k = none
  | 0, _ => rfl
  | k + 1, h => by
    unfold lst
    rw [h k (by omega)]
    exact lst_none (fun i hi => h i (by omega))

def dlAt (rs : List Rs) (i : Nat) : Dl := match rs[i]? with
  | some r => r.dl
  | none => []

theorem stL_append (S : Tr Bk) (L : Nat → Bool) : ∀ (rs : List Rs) (i : Nat) (r : Rs), ∀ S : Tr Bk, stL S L i (rs ++ [r]) = bif L (i + rs.length) then puts (stL S L i rs) r.dl else stL S L i rs
  | [], i, r, S => by simp [stL]
  | q :: rs, i, r, S => by
    rw [List.cons_append, stL, stL_append S L rs (i + 1) r, stL]
    simp only [List.length_cons, show i + 1 + rs.length = i + (rs.length + 1) by omega]

theorem stL_get (S : Tr Bk) (L : Nat → Bool) (rs : List Rs) (b : Nat) : ∀ k, k ≤ rs.length → (stL S L 0 (rs.take k)).get b = (lst (fun i => bif L i then lastOf (dlAt rs i) b else none) k).getD (S.get b)
  | 0, _ => by simp [stL, lst]
  | k + 1, h => by
    have hk : k < rs.length := by omega
    have e : rs.take (k + 1) = rs.take k ++ [rs[k]] := by rw [List.take_succ_eq_append_getElem hk]
    rw [e, stL_append S]
    simp only [Nat.zero_add, List.length_take, Nat.min_eq_left (show k ≤ rs.length by omega)]
    have ih := stL_get S L rs b k (by omega)
    have hd : dlAt rs k = rs[k].dl := by simp [dlAt, hk]
    unfold lst
    cases hL : L k with
    | false => simp only [cond_false]; exact ih
    | true =>
      simp only [cond_true, hd]
      rw [get_puts]
      cases lastOf rs[k].dl b with
      | some x => rfl
      | none => exact ih

theorem stL_get_all (S : Tr Bk) (L : Nat → Bool) (rs : List Rs) (b : Nat) : (stL S L 0 rs).get b = (lst (fun i => bif L i then lastOf (dlAt rs i) b else none) rs.length).getD (S.get b) := by
  have := stL_get S L rs b rs.length (Nat.le_refl _)
  rwa [List.take_length] at this

/-! ### What the numbers of the operations ahead say -/
def maskAt (rs : List Rs) (i : Nat) : Nat := match rs[i]? with
  | some r => r.mask
  | none => 0

theorem maskEdges_bit {rs : List Rs} {k : Nat} : ∀ {es : List Edge}, Nat.testBit (maskEdges rs es) k = true → ∃ e ∈ es, Region.binds .any e = true ∧ (k = e.on ∨ Nat.testBit (maskAt rs e.on) k = true)
  | [], h => by simp [maskEdges] at h
  | e :: es, h => by
    unfold maskEdges at h
    cases hb : Region.binds .any e with
    | false =>
      rw [hb] at h
      obtain ⟨e', h1, h2, h3⟩ := maskEdges_bit h
      exact ⟨e', by simp [h1], h2, h3⟩
    | true =>
      rw [hb] at h
      simp only [cond_true, Nat.testBit_or, Bool.or_eq_true] at h
      rcases h with (h | h) | h
      · rw [Nat.testBit_two_pow] at h
        have hk : e.on = k := by simpa using h
        exact ⟨e, by simp, hb, .inl hk.symm⟩
      · exact ⟨e, by simp, hb, .inr h⟩
      · obtain ⟨e', h1, h2, h3⟩ := maskEdges_bit h
        exact ⟨e', by simp [h1], h2, h3⟩

theorem maskEdges_sub {rs : List Rs} {k : Nat} : ∀ {es : List Edge} {e : Edge}, e ∈ es → Region.binds .any e = true → (k = e.on ∨ Nat.testBit (maskAt rs e.on) k = true) → Nat.testBit (maskEdges rs es) k = true
  | [], e, h, _, _ => by cases h
  | e' :: es, e, h, hb, hk => by
    unfold maskEdges
    rcases List.mem_cons.1 h with rfl | h
    · rw [hb]
      simp only [cond_true, Nat.testBit_or, Bool.or_eq_true]
      rcases hk with rfl | hk
      · exact .inl (.inl (by rw [Nat.testBit_two_pow]; simp))
      · exact .inl (.inr hk)
    · have ih := maskEdges_sub h hb hk
      cases Region.binds .any e' with
      | false => exact ih
      | true => simp only [cond_true, Nat.testBit_or, Bool.or_eq_true]; exact .inr ih

def fT (ops : Array Oper) (rs : List Rs) (t i : Nat) : Option AV := match ops[i]?, rs[i]? with
  | some o, some r => if o.dst = some t then some r.av else none
  | _, _ => none

/-- What a row of slots holds behind the first of the operations. -/
def orT (x : Option AV) (y : Option AV) : Option AV := match x with
  | some a => some a
  | none => y

theorem memOf_sub {ev : Operand → Option AV} {o : Op} {U : Tr Bk} {b : Nat} {k : Bk} (h : (memOf ev o U).get b = some k) : U.get b = some k := by
  unfold memOf at h
  split at h
  · split at h
    · rw [Tr.get_put] at h
      split at h
      · rename_i e; subst e; exact h
      · rw [Tr.get_e] at h; cases h
    · exact h
  · split at h
    · rw [Tr.get_put] at h
      split at h
      · rename_i e; subst e; exact h
      · rw [Tr.get_e] at h; cases h
    · exact h
  · split at h
    · rw [Tr.get_put] at h
      split at h
      · rename_i e; subst e; exact h
      · rw [Tr.get_e] at h; cases h
    · rw [Tr.get_e] at h; cases h
  · exact h

section
variable (opf : OpF) (sz : Nat) (ops : Array Oper) (dsts : List (Nat × Nat)) (S0 : Tr Bk) (T0 : Tr AV)

structure Good (rs : List Rs) (i : Nat) (o : Oper) (r : Rs) (nx : Nat) : Prop where
  mask : r.mask = maskEdges (rs.take i) o.after.toList
  edges : edgesLt i o.after.toList = true
  dst : badD dsts r.mask i o.dst = false
  room : ∀ d, o.dst = some d → d < sz
  run : ∃ T, (∀ t, T.get t = orT (lst (fT ops rs t) i) (T0.get t)) ∧
    ((wantedA ops (evD ops T dsts i r.mask) o = some true ∧ (∀ b k, r.U.get b = some k → (bif usesMem o.op then stL S0 (Nat.testBit r.mask) 0 (rs.take i) else .e).get b = some k) ∧ opf (evD ops T dsts i r.mask) r.U r.ns o = some (r.av, r.dl, nx) ∧ okDl r.U r.ns nx r.dl = true) ∨
     (wantedA ops (evD ops T dsts i r.mask) o = some false ∧ r.av = .tup [] ∧ r.dl = [] ∧ nx = r.ns ∧ r.U = .e))

def nsOf (rs : List Rs) (nf : Nat) (i : Nat) : Nat := match rs[i]? with
  | some r => r.ns
  | none => nf

theorem fT_append {rs rs' : List Rs} {t i : Nat} (h : i < rs.length) : fT ops (rs ++ rs') t i = fT ops rs t i := by
  unfold fT
  rw [List.getElem?_append_left h]

theorem Good.append {rs rs' : List Rs} {i : Nat} {o : Oper} {r : Rs} {nx : Nat} (hi : i ≤ rs.length) (h : Good opf sz ops dsts S0 T0 rs i o r nx) : Good opf sz ops dsts S0 T0 (rs ++ rs') i o r nx := by
  obtain ⟨h1, h2, h3, h4, T, h5, h6⟩ := h
  have et : (rs ++ rs').take i = rs.take i := by rw [List.take_append_of_le_length hi]
  refine ⟨by rw [et]; exact h1, h2, h3, h4, T, fun t => ?_, by rw [et]; exact h6⟩
  rw [h5 t]
  congr 1
  exact lst_congr (fun k hk => (fT_append ops (by omega)).symm)

theorem putT_get {sz : Nat} {T T' : Tr AV} {dst : Option Tmp} {av : AV} (h : putT sz T dst av = some T') : (∀ t, T'.get t = if dst = some t then some av else T.get t) ∧ ∀ d, dst = some d → d < sz := by
  unfold putT at h
  cases dst with
  | none => simp only [Option.some.injEq] at h; subst h; exact ⟨fun t => by simp, fun d hd => by cases hd⟩
  | some d =>
    simp only at h
    cases hc : Nat.ble (d + 1) sz with
    | false => rw [hc] at h; simp at h
    | true =>
      rw [hc] at h
      simp only [cond_true, Option.some.injEq] at h
      subst h
      refine ⟨fun t => ?_, fun e he => ?_⟩
      · rw [Tr.get_put]
        by_cases e : t = d
        · subst e; simp
        · rw [if_neg e, if_neg (by simpa using fun h => e h.symm)]
      · obtain rfl := Option.some.inj he
        exact Nat.le_of_ble_eq_true hc

theorem step_spec {j n n' : Nat} {T T' : Tr AV} {acc : List Rs} {o : Oper} {r : List Oper} {R : Rs} (hj : acc.length = j) (hl : ops.toList.drop j = o :: r) (hT : ∀ t, T.get t = orT (lst (fT ops acc t) j) (T0.get t))
    (hG : ∀ i o r, ops[i]? = some o → acc[i]? = some r → Good opf sz ops dsts S0 T0 acc i o r (nsOf acc n (i + 1))) (hput : putT sz T o.dst R.av = some T') (hns : R.ns = n)
    (hnew : Good opf sz ops dsts S0 T0 acc j o R n') :
    (acc ++ [R]).length = j + 1 ∧ ops.toList.drop (j + 1) = r ∧ j + 1 ≤ ops.size ∧ (∀ t, T'.get t = orT (lst (fT ops (acc ++ [R]) t) (j + 1)) (T0.get t)) ∧
    (∀ i o r, ops[i]? = some o → (acc ++ [R])[i]? = some r → Good opf sz ops dsts S0 T0 (acc ++ [R]) i o r (nsOf (acc ++ [R]) n' (i + 1))) ∧ nsOf (acc ++ [R]) n' 0 = nsOf acc n 0 := by
  have ho : ops[j]? = some o := by
    have := congrArg (fun l => l[0]?) hl
    simpa [List.getElem?_drop] using this
  have hlt : j < ops.size := (Array.getElem?_eq_some_iff.1 ho).1
  obtain ⟨hg1, hg2⟩ := putT_get hput
  have hRj : (acc ++ [R])[j]? = some R := by rw [List.getElem?_append_right (by omega)]; simp [hj]
  refine ⟨by simp [hj], ?_, hlt, fun t => ?_, fun i o' r' hi hr => ?_, ?_⟩
  · have := congrArg List.tail hl
    simpa [List.tail_drop] using this
  · rw [hg1 t]
    unfold lst
    have e1 : fT ops (acc ++ [R]) t j = if o.dst = some t then some R.av else none := by unfold fT; rw [ho, hRj]
    have e2 : lst (fT ops (acc ++ [R]) t) j = lst (fT ops acc t) j := lst_congr (fun k hk => fT_append ops (by omega))
    rw [e1]
    by_cases hd : o.dst = some t
    · rw [if_pos hd, if_pos hd]; rfl
    · rw [if_neg hd, if_neg hd, e2]; exact hT t
  · rcases Nat.lt_or_ge i j with hij | hij
    · rw [List.getElem?_append_left (by omega)] at hr
      have hg := (hG i o' r' hi hr).append (rs' := [R]) opf sz ops dsts S0 T0 (by omega)
      have e : nsOf (acc ++ [R]) n' (i + 1) = nsOf acc n (i + 1) := by
        unfold nsOf
        rcases Nat.lt_or_ge (i + 1) j with h1 | h1
        · rw [List.getElem?_append_left (by omega)]
          have : (acc[i + 1]?).isSome = true := by simp; omega
          obtain ⟨q, hq⟩ := Option.isSome_iff_exists.1 this
          rw [hq]
        · have e : i + 1 = j := by omega
          rw [e, hRj, List.getElem?_eq_none (by omega)]
          exact hns
      rw [e]; exact hg
    · have e : i = j := by
        have := (List.getElem?_eq_some_iff.1 hr).1
        simp at this
        omega
      subst e
      obtain rfl : R = r' := by rw [hRj] at hr; exact Option.some.inj hr
      obtain rfl : o = o' := by rw [ho] at hi; exact Option.some.inj hi
      have e : nsOf (acc ++ [R]) n' (i + 1) = n' := by unfold nsOf; rw [List.getElem?_eq_none (by simp; omega)]
      rw [e]
      exact hnew.append opf sz ops dsts S0 T0 (by omega)
  · unfold nsOf
    cases acc with
    | nil => simpa using hns
    | cons q acc => simp

theorem drawGo_spec : ∀ (l : List Oper) (j : Nat) (T : Tr AV) (n : Nat) (acc : List Rs) (Tf : Tr AV) (nf : Nat) (rs : List Rs), drawGo opf sz ops dsts S0 l j T n acc = some (Tf, nf, rs) →
    acc.length = j → ops.toList.drop j = l → j ≤ ops.size → (∀ t, T.get t = orT (lst (fT ops acc t) j) (T0.get t)) →
    (∀ i o r, ops[i]? = some o → acc[i]? = some r → Good opf sz ops dsts S0 T0 acc i o r (nsOf acc n (i + 1))) →
    rs.length = ops.size ∧ (∀ t, Tf.get t = orT (lst (fT ops rs t) ops.size) (T0.get t)) ∧ (∀ i o r, ops[i]? = some o → rs[i]? = some r → Good opf sz ops dsts S0 T0 rs i o r (nsOf rs nf (i + 1))) ∧ nsOf rs nf 0 = nsOf acc n 0
  | [], j, T, n, acc, Tf, nf, rs, h, hj, hl, hjs, hT, hG => by
    simp only [drawGo, Option.some.injEq, Prod.mk.injEq] at h
    obtain ⟨rfl, rfl, rfl⟩ := h
    have hle : ops.size ≤ j := by
      have := List.drop_eq_nil_iff.1 hl
      simpa using this
    obtain rfl : j = ops.size := by omega
    exact ⟨hj, hT, hG, rfl⟩
  | o :: r, j, T, n, acc, Tf, nf, rs, h, hj, hl, hjs, hT, hG => by
    unfold drawGo at h
    dsimp only at h
    cases hc : (edgesLt j o.after.toList && !badD dsts (maskEdges acc o.after.toList) j o.dst) with
    | false => rw [hc] at h; simp at h
    | true =>
      rw [hc] at h
      simp only [cond_true] at h
      simp only [Bool.and_eq_true, Bool.not_eq_true'] at hc
      have et : acc.take j = acc := by rw [← hj]; exact List.take_length
      split at h
      · rename_i hw
        split at h
        · rename_i av dl n' hop
          cases hok : okDl (memOf (evD ops T dsts j (maskEdges acc o.after.toList)) o.op (bif usesMem o.op then stL S0 (Nat.testBit (maskEdges acc o.after.toList)) 0 acc else .e)) n n' dl with
          | false => rw [hok] at h; simp at h
          | true =>
            rw [hok] at h
            simp only [cond_true] at h
            split at h
            · rename_i T' hput
              have hnew : Good opf sz ops dsts S0 T0 acc j o ⟨av, dl, n, maskEdges acc o.after.toList, memOf (evD ops T dsts j (maskEdges acc o.after.toList)) o.op (bif usesMem o.op then stL S0 (Nat.testBit (maskEdges acc o.after.toList)) 0 acc else .e)⟩ n' :=
                ⟨by rw [et], hc.1, hc.2, (putT_get hput).2, T, hT, .inl ⟨hw, fun b k hb => by rw [et]; exact memOf_sub hb, hop, hok⟩⟩
              obtain ⟨a1, a2, a3, a4, a5, a6⟩ := step_spec opf sz ops dsts S0 T0 hj hl hT hG hput rfl hnew
              obtain ⟨b1, b2, b3, b4⟩ := drawGo_spec r (j + 1) T' n' _ Tf nf rs h a1 a2 a3 a4 a5
              exact ⟨b1, b2, b3, b4.trans a6⟩
            · cases h
        · cases h
      · rename_i hw
        split at h
        · rename_i T' hput
          have hnew : Good opf sz ops dsts S0 T0 acc j o ⟨.tup [], [], n, maskEdges acc o.after.toList, .e⟩ n :=
            ⟨by rw [et], hc.1, hc.2, (putT_get hput).2, T, hT, .inr ⟨hw, rfl, rfl, rfl, rfl⟩⟩
          obtain ⟨a1, a2, a3, a4, a5, a6⟩ := step_spec opf sz ops dsts S0 T0 hj hl hT hG hput rfl hnew
          obtain ⟨b1, b2, b3, b4⟩ := drawGo_spec r (j + 1) T' n _ Tf nf rs h a1 a2 a3 a4 a5
          exact ⟨b1, b2, b3, b4.trans a6⟩
        · cases h
      · cases h
end
end Go.Ev

namespace Go.Ev
open Go.RowKit
set_option linter.unusedVariables false
set_option linter.unusedSimpArgs false

section
variable {opf : OpF} {sz : Nat} {ops : Array Oper} {dsts : List (Nat × Nat)} {S0 : Tr Bk} {T0 : Tr AV} {rs : List Rs} {nf n0 : Nat}

/-- All that was reckoned of a region. -/
structure Plan (opf : OpF) (sz : Nat) (ops : Array Oper) (dsts : List (Nat × Nat)) (S0 : Tr Bk) (T0 : Tr AV) (rs : List Rs) (nf n0 : Nat) : Prop where
  le : OpLe opf
  len : rs.length = ops.size
  good : ∀ {i o r}, ops[i]? = some o → rs[i]? = some r → Good opf sz ops dsts S0 T0 rs i o r (nsOf rs nf (i + 1))
  apart : apartAll 0 rs = true
  keys0 : ∀ {b k}, S0.get b = some k → b < n0
  start : nsOf rs nf 0 = n0

theorem Plan.oper (p : Plan opf sz ops dsts S0 T0 rs nf n0) {i : Nat} {r : Rs} (h : rs[i]? = some r) : ∃ o, ops[i]? = some o := by
  have h1 := (List.getElem?_eq_some_iff.1 h).1
  have h2 := p.len
  exact ⟨ops[i]'(by omega), by simp⟩

theorem Plan.res (p : Plan opf sz ops dsts S0 T0 rs nf n0) {i : Nat} {o : Oper} (h : ops[i]? = some o) : ∃ r, rs[i]? = some r := by
  have h1 := (Array.getElem?_eq_some_iff.1 h).1
  have h2 := p.len
  exact ⟨rs[i]'(by omega), by simp⟩

theorem nsOf_at {i : Nat} {r : Rs} (h : rs[i]? = some r) : nsOf rs nf i = r.ns := by unfold nsOf; rw [h]

theorem Plan.step (p : Plan opf sz ops dsts S0 T0 rs nf n0) {i : Nat} (h : i < ops.size) : nsOf rs nf i ≤ nsOf rs nf (i + 1) := by
  have ho : ops[i]? = some ops[i] := by simp [h]
  obtain ⟨r, hr⟩ := p.res ho
  obtain ⟨_, _, _, _, T, _, h6⟩ := p.good ho hr
  rw [nsOf_at hr]
  rcases h6 with ⟨_, _, hop, _⟩ | ⟨_, _, _, e, _⟩
  · exact p.le hop
  · rw [e]; exact Nat.le_refl _

theorem Plan.mono (p : Plan opf sz ops dsts S0 T0 rs nf n0) {i : Nat} : ∀ {k : Nat}, i ≤ k → k ≤ ops.size → nsOf rs nf i ≤ nsOf rs nf k
  | 0, h, _ => by
    have e : i = 0 := by omega
    subst e; exact Nat.le_refl _
  | k + 1, h, hk => by
    by_cases e : i = k + 1
    · subst e; exact Nat.le_refl _
    · exact Nat.le_trans (p.mono (k := k) (by omega) (by omega)) (p.step (by omega))

theorem maskAt_take {j i : Nat} (h : i < j) : maskAt (rs.take j) i = maskAt rs i := by
  unfold maskAt
  rw [List.getElem?_take, if_pos h]

theorem maskAt_at {i : Nat} {r : Rs} (h : rs[i]? = some r) : maskAt rs i = r.mask := by unfold maskAt; rw [h]

theorem edgesLt_ok {j : Nat} {es : List Edge} (h : edgesLt j es = true) {e : Edge} (he : e ∈ es) (hb : Region.binds .any e = true) : e.on < j := by
  unfold edgesLt at h
  rw [List.all_eq_true] at h
  have := h e he
  rw [hb] at this
  have h3 : e.on + 1 ≤ j := by simpa [Nat.ble_eq] using this
  omega

/-- The edges' bits, of the whole. -/
theorem Plan.bit (p : Plan opf sz ops dsts S0 T0 rs nf n0) {j k : Nat} {o : Oper} {r : Rs} (ho : ops[j]? = some o) (hr : rs[j]? = some r) : Nat.testBit r.mask k = true ↔ ∃ e ∈ o.after, Region.binds .any e = true ∧ e.on < j ∧ (k = e.on ∨ Nat.testBit (maskAt rs e.on) k = true) := by
  have hg := p.good ho hr
  rw [hg.mask]
  constructor
  · intro h
    obtain ⟨e, h1, h2, h3⟩ := maskEdges_bit h
    have hlt := edgesLt_ok hg.edges h1 h2
    refine ⟨e, by simpa using h1, h2, hlt, ?_⟩
    rwa [maskAt_take hlt] at h3
  · rintro ⟨e, h1, h2, hlt, h3⟩
    refine maskEdges_sub (by simpa using h1) h2 ?_
    rwa [maskAt_take hlt]

theorem Plan.bit_lt (p : Plan opf sz ops dsts S0 T0 rs nf n0) : ∀ {j k : Nat}, Nat.testBit (maskAt rs j) k = true → k < j := by
  intro j
  induction j using Nat.strongRecOn with
  | ind j ih =>
    intro k h
    cases hr : rs[j]? with
    | none => unfold maskAt at h; rw [hr] at h; simp at h
    | some r =>
      obtain ⟨o, ho⟩ := p.oper hr
      rw [maskAt_at hr, p.bit ho hr] at h
      obtain ⟨e, _, _, hlt, h3⟩ := h
      rcases h3 with rfl | h3
      · exact hlt
      · have := ih _ hlt h3; omega

theorem Plan.bit_trans (p : Plan opf sz ops dsts S0 T0 rs nf n0) : ∀ {j i k : Nat}, Nat.testBit (maskAt rs j) i = true → Nat.testBit (maskAt rs i) k = true → Nat.testBit (maskAt rs j) k = true := by
  intro j
  induction j using Nat.strongRecOn with
  | ind j ih =>
    intro i k h hk
    cases hr : rs[j]? with
    | none => unfold maskAt at h; rw [hr] at h; simp at h
    | some r =>
      obtain ⟨o, ho⟩ := p.oper hr
      rw [maskAt_at hr, p.bit ho hr] at h ⊢
      obtain ⟨e, h1, h2, hlt, h3⟩ := h
      refine ⟨e, h1, h2, hlt, .inr ?_⟩
      rcases h3 with rfl | h3
      · exact hk
      · exact ih _ hlt h3 hk

theorem dlAt_at {i : Nat} {r : Rs} (h : rs[i]? = some r) : dlAt rs i = r.dl := by unfold dlAt; rw [h]

theorem mem_of_lastOf {b : Nat} : ∀ {dl : Dl}, lastOf dl b ≠ none → ∃ x, (b, x) ∈ dl
  | [], h => absurd rfl h
  | (b', k) :: r, h => by
    rw [lastOf] at h
    cases hr : lastOf r b with
    | some y =>
      obtain ⟨x, hx⟩ := mem_of_lastOf (dl := r) (b := b) (by rw [hr]; simp)
      exact ⟨x, by simp [hx]⟩
    | none =>
      rw [hr] at h
      simp only at h
      split at h
      · rename_i e; subst e; exact ⟨k, by simp⟩
      · exact absurd rfl h

theorem Plan.key_lt (p : Plan opf sz ops dsts S0 T0 rs nf n0) {i b : Nat} {r : Rs} (hr : rs[i]? = some r) (h : lastOf r.dl b ≠ none) : b < nsOf rs nf (i + 1) := by
  obtain ⟨o, ho⟩ := p.oper hr
  obtain ⟨_, _, _, _, T, _, h6⟩ := p.good ho hr
  rcases h6 with ⟨_, _, _, hok⟩ | ⟨_, _, e, _⟩
  · unfold okDl at hok
    simp only [Bool.and_eq_true, List.all_eq_true] at hok
    obtain ⟨x, hx⟩ := mem_of_lastOf h
    exact Nat.le_of_ble_eq_true (hok.1 _ hx)
  · rw [e] at h; exact absurd rfl h

theorem Plan.seen (p : Plan opf sz ops dsts S0 T0 rs nf n0) {i b : Nat} {r : Rs} (hr : rs[i]? = some r) (h : lastOf r.dl b ≠ none) (hb : b < r.ns) : ∃ k, r.U.get b = some k := by
  obtain ⟨o, ho⟩ := p.oper hr
  obtain ⟨_, _, _, _, T, _, h6⟩ := p.good ho hr
  rcases h6 with ⟨_, _, _, hok⟩ | ⟨_, _, e, _⟩
  · unfold okDl at hok
    simp only [Bool.and_eq_true, List.all_eq_true] at hok
    have := hok.2 _ (mem_overs h hb)
    split at this
    · rename_i k hk; exact ⟨k, hk⟩
    · cases this
  · rw [e] at h; exact absurd rfl h

/-- What an operation sees. -/
theorem Plan.U_get (p : Plan opf sz ops dsts S0 T0 rs nf n0) {j b : Nat} {r : Rs} {k : Bk} (hr : rs[j]? = some r) (h : r.U.get b = some k) :
    r.U.get b = (lst (fun i => bif Nat.testBit r.mask i then lastOf (dlAt rs i) b else none) j).getD (S0.get b) := by
  obtain ⟨o, ho⟩ := p.oper hr
  have hj : j ≤ rs.length := Nat.le_of_lt (List.getElem?_eq_some_iff.1 hr).1
  obtain ⟨_, _, _, _, T, _, h6⟩ := p.good ho hr
  rcases h6 with ⟨_, hU, _, _⟩ | ⟨_, _, _, _, hU⟩
  · cases hm : usesMem o.op with
    | true =>
      have hb := hU b k h
      rw [hm] at hb
      simp only [cond_true] at hb
      rw [h, ← hb]
      exact stL_get S0 _ rs b j hj
    | false =>
      have hb := hU b k h
      rw [hm] at hb
      cases hb
  · rw [hU] at h; cases h

/-- Whoever sees a number knows whose it is. -/
theorem Plan.owner (p : Plan opf sz ops dsts S0 T0 rs nf n0) {i b : Nat} (hi : i < ops.size) (h1 : nsOf rs nf i ≤ b) (h2 : b < nsOf rs nf (i + 1)) : ∀ {c : Nat} {r : Rs} {k : Bk}, rs[c]? = some r → r.U.get b = some k → Nat.testBit r.mask i = true := by
  intro c
  induction c using Nat.strongRecOn with
  | ind c ih =>
    intro r k hr h
    have hU := p.U_get hr h
    rw [h] at hU
    have h0 : S0.get b = none := by
      cases hs : S0.get b with
      | none => rfl
      | some k0 =>
        have := p.keys0 hs
        have := p.mono (i := 0) (k := i) (by omega) (by omega)
        rw [p.start] at this
        omega
    rw [h0] at hU
    cases hl : lst (fun i => bif Nat.testBit r.mask i then lastOf (dlAt rs i) b else none) c with
    | none => rw [hl] at hU; cases hU
    | some x =>
      obtain ⟨c', hc', hx⟩ := lst_some hl
      cases hb : Nat.testBit r.mask c' with
      | false => rw [hb] at hx; cases hx
      | true =>
        rw [hb] at hx
        simp only [cond_true] at hx
        by_cases e : c' = i
        · subst e; exact hb
        · cases hr' : rs[c']? with
          | none => unfold dlAt at hx; rw [hr'] at hx; cases hx
          | some r' =>
            rw [dlAt_at hr'] at hx
            have hne : lastOf r'.dl b ≠ none := by rw [hx]; simp
            have hlt := p.key_lt hr' hne
            have hc's : c' < ops.size := by have := (List.getElem?_eq_some_iff.1 hr').1; have := p.len; omega
            have hns : b < r'.ns := by
              rw [← nsOf_at (nf := nf) hr']
              rcases Nat.lt_or_ge c' i with hh | hh
              · have := p.mono (i := c' + 1) (k := i) (by omega) (by omega); omega
              · have := p.mono (i := i + 1) (k := c') (by omega) (by omega); omega
            obtain ⟨k', hk'⟩ := p.seen hr' hne hns
            have := ih c' hc' hr' hk'
            rw [← maskAt_at hr] at hb ⊢
            rw [← maskAt_at hr'] at this
            exact p.bit_trans hb this

theorem unseen_ok {bs : List Nat} {U : Tr Bk} (h : unseen bs U = true) {b : Nat} (hb : b ∈ bs) : U.get b = none := by
  unfold unseen at h
  rw [List.all_eq_true] at h
  have := h b hb
  split at this
  · assumption
  · cases this

theorem apartFrom_ok {r : Rs} {i : Nat} : ∀ {l : List Rs}, apartFrom r i l = true → ∀ {q}, q ∈ l → Nat.testBit q.mask i = false → (∀ b ∈ overs r.ns r.dl, q.U.get b = none) ∧ (∀ b ∈ overs q.ns q.dl, r.U.get b = none)
  | [], _, q, hq, _ => by cases hq
  | x :: l, h, q, hq, hm => by
    unfold apartFrom at h
    simp only [Bool.and_eq_true, Bool.or_eq_true] at h
    rcases List.mem_cons.1 hq with rfl | hq
    · rcases h.1 with h1 | h1
      · rw [hm] at h1; cases h1
      · exact ⟨fun b hb => unseen_ok h1.1 hb, fun b hb => unseen_ok h1.2 hb⟩
    · exact apartFrom_ok h.2 hq hm

theorem apartAll_ok : ∀ {l : List Rs} {n : Nat}, apartAll n l = true → ∀ {i j : Nat} {r q : Rs}, i < j → l[i]? = some r → l[j]? = some q → Nat.testBit q.mask (n + i) = false →
    (∀ b ∈ overs r.ns r.dl, q.U.get b = none) ∧ (∀ b ∈ overs q.ns q.dl, r.U.get b = none)
  | [], n, _, i, j, r, q, _, hr, _, _ => by simp at hr
  | x :: l, n, h, i, j, r, q, hij, hr, hq, hm => by
    unfold apartAll at h
    simp only [Bool.and_eq_true] at h
    cases j with
    | zero => omega
    | succ j =>
      simp only [List.getElem?_cons_succ] at hq
      cases i with
      | zero =>
        simp only [List.getElem?_cons_zero, Option.some.injEq] at hr
        subst hr
        exact apartFrom_ok h.1 (List.mem_of_getElem? hq) hm
      | succ i =>
        simp only [List.getElem?_cons_succ] at hr
        exact apartAll_ok h.2 (by omega) hr hq (by rwa [show n + 1 + i = n + (i + 1) by omega])

theorem Plan.apart2 (p : Plan opf sz ops dsts S0 T0 rs nf n0) {i j : Nat} {r q : Rs} (hij : i < j) (hr : rs[i]? = some r) (hq : rs[j]? = some q) (hm : Nat.testBit q.mask i = false) :
    (∀ b ∈ overs r.ns r.dl, q.U.get b = none) ∧ (∀ b ∈ overs q.ns q.dl, r.U.get b = none) :=
  apartAll_ok p.apart hij hr hq (by rwa [Nat.zero_add])

/-- Two that are not ordered: what the one leaves the other does not see. -/
theorem Plan.blind (p : Plan opf sz ops dsts S0 T0 rs nf n0) {i j b : Nat} {r q : Rs} {k : Bk} (hr : rs[i]? = some r) (hq : rs[j]? = some q) (hne : i ≠ j) (h1 : Nat.testBit q.mask i = false) (h2 : Nat.testBit r.mask j = false)
    (hl : lastOf r.dl b ≠ none) (hU : q.U.get b = some k) : False := by
  have his : i < ops.size := by have := (List.getElem?_eq_some_iff.1 hr).1; have := p.len; omega
  rcases Nat.lt_or_ge b r.ns with hb | hb
  · have ho := mem_overs hl hb
    rcases Nat.lt_or_gt_of_ne hne with hlt | hgt
    · have := (p.apart2 hlt hr hq h1).1 b ho; rw [this] at hU; cases hU
    · have := (p.apart2 hgt hq hr h2).2 b ho; rw [this] at hU; cases hU
  · have := p.owner his (by rw [nsOf_at hr]; exact hb) (p.key_lt hr hl) hq hU
    rw [h1] at this; cases this
end
end Go.Ev
