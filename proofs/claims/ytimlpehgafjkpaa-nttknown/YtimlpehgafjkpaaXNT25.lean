/- A region that draws its order: what each slot says of its value, whatever order is drawn. -/
import Derived.Test.YtimlpehgafjkpaaXNT24
namespace Go.Proofs.Ytimlpehgafjkpaa
open Go.RowKit Go.Maps
set_option linter.unusedVariables false
set_option linter.unusedSimpArgs false

theorem count_set : ∀ (l : List Bool) (i : Nat), l[i]? = some false → (l.set i true).count false + 1 = l.count false
  | [], i, h => by simp at h
  | b :: l, 0, h => by simp at h; subst h; simp
  | b :: l, i + 1, h => by
    have := count_set l i (by simpa using h)
    simp only [List.set_cons_succ, List.count_cons]
    omega

variable {P : Program} {ops : Array Oper} {Q : Exit → Act → World → Prop} {md : Region.Mode}

theorem ready_parts {listed : Array Bool} {i : Nat} (h : i ∈ Region.ready md ops listed) : ∃ o, ops[i]? = some o ∧ i < ops.size ∧ listed.getD i true = false ∧ ∀ e ∈ o.after, Region.binds md e = true → listed.getD e.on false = true := by
  unfold Region.ready at h
  obtain ⟨h1, h2⟩ := List.mem_filter.1 h
  have hlt : i < ops.size := List.mem_range.1 h1
  rw [Bool.and_eq_true] at h2
  obtain ⟨h3, h4⟩ := h2
  have ho : ops[i]? = some ops[i] := Array.getElem?_eq_getElem hlt
  rw [ho] at h4
  refine ⟨_, ho, hlt, by simpa using h3, fun e he hb => ?_⟩
  simp only [Option.map_some, Option.getD_some] at h4
  rw [Array.all_eq_true'] at h4
  have := h4 e he
  rw [hb] at this
  simpa using this

theorem ready_mem {listed : Array Bool} {i : Nat} {o : Oper} (ho : ops[i]? = some o) (h1 : listed.getD i true = false) (h2 : ∀ e ∈ o.after, Region.binds md e = true → listed.getD e.on false = true) : i ∈ Region.ready md ops listed := by
  unfold Region.ready
  refine List.mem_filter.2 ⟨List.mem_range.2 (Array.getElem?_eq_some_iff.1 ho).1, ?_⟩
  rw [Bool.and_eq_true, ho]
  refine ⟨by rw [h1]; rfl, ?_⟩
  simp only [Option.map_some, Option.getD_some]
  rw [Array.all_eq_true']
  intro e he
  cases hb : Region.binds md e with
  | false => rfl
  | true => rw [h2 e he hb]; rfl

theorem all_listed {listed : Array Bool} (hs : listed.size = ops.size) (hord : ∀ i o, ops[i]? = some o → ∀ e ∈ o.after, Region.binds md e = true → e.on < i) (hr : Region.ready md ops listed = []) : ∀ n i, i < n → i < ops.size → listed.getD i false = true := by
  intro n
  induction n with
  | zero => intro i h; omega
  | succ n ih =>
    intro i h hi
    have ho : ops[i]? = some ops[i] := Array.getElem?_eq_getElem hi
    cases hl : listed.getD i true with
    | true =>
      have : i < listed.size := by omega
      simp [Array.getD, this] at hl ⊢
      exact hl
    | false =>
      have := ready_mem (md := md) ho hl fun e he hb => ih e.on (by have := hord i _ ho e he hb; omega) (by have := hord i _ ho e he hb; omega)
      rw [hr] at this
      cases this

theorem wpAny_keeps (I : Array Bool → Act → World → Prop)
    (hstep : ∀ listed a w i, listed.size = ops.size → i ∈ Region.ready md ops listed → I listed a w → wpOp P ops Q i (I (listed.setIfInBounds i true)) a w)
    (hend : ∀ listed a w, listed.size = ops.size → Region.ready md ops listed = [] → I listed a w → Q .normal a w) :
    ∀ (fuel : Nat) (listed : Array Bool) (a : Act) (w : World), listed.size = ops.size → listed.toList.count false ≤ fuel → I listed a w → wpAny P md ops Q fuel listed a w := by
  have gone : ∀ (listed : Array Bool) (i : Nat), listed.size = ops.size → i ∈ Region.ready md ops listed → listed.toList[i]? = some false := by
    intro listed i hs hi
    obtain ⟨o, ho, hlt, h1, _⟩ := ready_parts hi
    have : i < listed.size := by omega
    simp [Array.getD, this] at h1
    rw [Array.getElem?_toList, Array.getElem?_eq_getElem this, h1]
  intro fuel
  induction fuel with
  | zero =>
    intro listed a w hs hc hI
    have hr : Region.ready md ops listed = [] := by
      cases hr : Region.ready md ops listed with
      | nil => rfl
      | cons x xs =>
        exfalso
        have := count_set _ _ (gone listed x hs (by rw [hr]; simp))
        omega
    exact ⟨hr, hend _ _ _ hs hr hI⟩
  | succ fuel ih =>
    intro listed a w hs hc hI
    refine ⟨fun hr => hend _ _ _ hs hr hI, fun i hi => ?_⟩
    refine wpOp_mono (fun a' w' hI' => ih _ _ _ (by simpa using hs) ?_ hI') (hstep listed a w i hs hi hI)
    have := count_set _ _ (gone listed i hs hi)
    rw [Array.toList_setIfInBounds]
    omega

/-- What an operation is asked: in whatever frame that says of its reads what the table says. -/
def StepOK (P : Program) (ops : Array Oper) (sp : Nat → Value → World → Prop) (w0 : World) (o : Oper) : Prop :=
  ∀ a w, Fwd w0 w → (∀ t, Operand.tmp t ∈ o.op.operands.toList → sp t (a.eval (.tmp t)) w) →
    ∀ (K : Act → World → Prop) (Q : Exit → Act → World → Prop), (∀ v w', Fwd w w' → (∀ d, o.dst = some d → sp d v w') → K (a.put o.dst v) w') → o.wp P a w K Q

/-- Guards, order and reads of a region, looked at by the kernel. -/
def regB (ops : Array Oper) (trues : List Nat) : Bool :=
  (List.range ops.size).all fun i => match ops[i]? with
    | none => true
    | some o =>
      (o.after.all fun e => !Region.binds .any e || decide (e.on < i)) &&
      (match o.guard with
       | none => true
       | some (g, b) => b && match (ops[g]?).bind (·.dst) with
          | some t => trues.contains t && (List.range ops.size).all fun j => ((ops[j]?).bind (·.dst)) != some t || o.after.any fun e => Region.binds .any e && e.on == j
          | none => false) &&
      (o.op.operands.toList.all fun x => match x with
        | .tmp t => (List.range ops.size).all fun j => ((ops[j]?).bind (·.dst)) != some t || o.after.any fun e => Region.binds .any e && e.on == j
        | _ => true)

theorem wp_region_says {id : Nat} {a0 : Act} {w0 : World} (hm : P.follows .mixedOrders = true) (trues : List Nat) (N : Nat) (sp : Nat → Value → World → Prop) (hB : regB ops trues = true)
    (htrue : ∀ t ∈ trues, ∀ v w, sp t v w → v = .bool true)
    (hkeep : ∀ t v w w', Fwd w w' → sp t v w → sp t v w')
    (hN : a0.tmps.size = N) (hd : a0.defers = [])
    (h0 : ∀ t, (∀ o ∈ ops.toList, o.dst ≠ some t) → sp t (a0.eval (.tmp t)) w0)
    (hlt : ∀ o ∈ ops.toList, ∀ d, o.dst = some d → d < N)
    (hops : ∀ o ∈ ops.toList, StepOK P ops sp w0 o)
    (hend : ∀ a w, Fwd w0 w → a.tmps.size = N → a.defers = [] → (∀ t, sp t (a.eval (.tmp t)) w) → Q .normal a w) : (Code.region id ops true).wp P Q a0 w0 := by
  have hB' : ∀ i o, ops[i]? = some o → _ := fun i o ho => by
    have h := List.all_eq_true.1 hB i (List.mem_range.2 (Array.getElem?_eq_some_iff.1 ho).1)
    rw [ho] at h
    dsimp only at h
    rw [Bool.and_eq_true, Bool.and_eq_true] at h
    exact h
  have told : ∀ {o : Oper} {t : Nat} {listed : Array Bool}, ((List.range ops.size).all fun j => ((ops[j]?).bind (·.dst)) != some t || o.after.any fun e => Region.binds .any e && e.on == j) = true → (∀ e ∈ o.after, Region.binds .any e = true → listed.getD e.on false = true) → ∀ j oj, ops[j]? = some oj → oj.dst = some t → listed.getD j false = true := by
    intro o t listed h hl j oj hj hdt
    have h1 := List.all_eq_true.1 h j (List.mem_range.2 (Array.getElem?_eq_some_iff.1 hj).1)
    rw [hj] at h1
    simp only [Option.bind_some, hdt, bne_self_eq_false, Bool.false_or] at h1
    rw [Array.any_eq_true'] at h1
    obtain ⟨e, he, h2⟩ := h1
    rw [Bool.and_eq_true] at h2
    have := hl e he h2.1
    rw [beq_iff_eq.1 h2.2] at this
    exact this
  refine wp_region_any hm (wpAny_keeps (md := .any)
    (fun listed a w => Fwd w0 w ∧ a.tmps.size = N ∧ a.defers = [] ∧ ∀ t, (∀ j oj, ops[j]? = some oj → oj.dst = some t → listed.getD j false = true) → sp t (a.eval (.tmp t)) w)
    ?_ ?_ _ _ _ _ (by simp) ?_ ?_)
  · rintro listed a w i hs hi ⟨i1, i2, i3, i4⟩
    obtain ⟨o, ho, hilt, hi0, hafter⟩ := ready_parts hi
    obtain ⟨⟨_, hg⟩, hr⟩ := hB' i o ho
    have hmem : o ∈ ops.toList := by
      rw [← Array.getElem?_toList] at ho
      exact List.mem_of_getElem? ho
    have hw : Region.wanted o (yielded ops a.tmps) = true := by
      unfold Region.wanted
      cases hgd : o.guard with
      | none => rfl
      | some p =>
        obtain ⟨g, b⟩ := p
        rw [hgd] at hg
        dsimp only at hg
        rw [Bool.and_eq_true] at hg
        obtain ⟨hb, hg⟩ := hg
        subst hb
        cases hgt : (ops[g]?).bind (·.dst) with
        | none => rw [hgt] at hg; cases hg
        | some t =>
          rw [hgt] at hg
          dsimp only at hg
          rw [Bool.and_eq_true] at hg
          have hv := htrue t (List.contains_iff_mem.1 hg.1) _ _ (i4 t (told hg.2 hafter))
          unfold yielded
          dsimp only
          rw [hgt]
          unfold Act.eval at hv
          dsimp only at hv
          simp only [Option.bind_some]
          by_cases htl : t < a.tmps.size
          · simp [Array.getD, htl] at hv
            rw [Array.getElem?_eq_getElem htl, hv]
            rfl
          · simp [Array.getD, htl, undef] at hv
    unfold wpOp
    rw [ho]
    dsimp only
    rw [if_pos hw]
    refine .inl (hops o hmem a w i1 (fun t ht => i4 t (told (List.all_eq_true.1 hr _ ht) hafter)) _ _ fun v w' hF hsp => ⟨i1.trans hF, ?_, ?_, fun t ht => ?_⟩)
    · cases hdo : o.dst <;> simp [Act.put, i2]
    · cases hdo : o.dst <;> simp [Act.put, i3]
    · by_cases hdt : o.dst = some t
      · have hl := hlt o hmem t hdt
        have : (a.put o.dst v).eval (.tmp t) = v := by
          rw [hdt]; unfold Act.put Act.eval
          simp [Array.getD, i2, hl]
        rw [this]
        exact hsp t hdt
      · have : (a.put o.dst v).eval (.tmp t) = a.eval (.tmp t) := by
          cases hdo : o.dst with
          | none => rfl
          | some d =>
            have hne : d ≠ t := fun e => hdt (by rw [hdo, e])
            unfold Act.put Act.eval
            simp [Array.getD_eq_getD_getElem?, Array.getElem?_setIfInBounds_ne hne]
        rw [this]
        refine hkeep t _ _ _ hF (i4 t fun j oj hj hdj => ?_)
        have hne : i ≠ j := fun e => by
          subst e
          rw [ho] at hj
          cases hj
          exact hdt hdj
        have := ht j oj hj hdj
        rw [Array.getD_eq_getD_getElem?, Array.getElem?_setIfInBounds_ne hne, ← Array.getD_eq_getD_getElem?] at this
        exact this
  · rintro listed a w hs hr ⟨i1, i2, i3, i4⟩
    refine hend a w i1 i2 i3 fun t => i4 t fun j oj hj _ => ?_
    refine all_listed (md := .any) hs (fun i o ho e he hb => ?_) hr (j + 1) j (by omega) (Array.getElem?_eq_some_iff.1 hj).1
    have h := (hB' i o ho).1.1
    rw [Array.all_eq_true'] at h
    have := h e he
    rw [hb] at this
    simpa using this
  · simp
  · refine ⟨(Fwd.refl w0).drew, hN, hd, fun t ht => hkeep t _ _ _ (Fwd.refl w0).drew (h0 t fun o ho hdt => ?_)⟩
    obtain ⟨j, hj⟩ := List.mem_iff_getElem?.1 ho
    rw [Array.getElem?_toList] at hj
    have h := ht j o hj hdt
    have hlt := (Array.getElem?_eq_some_iff.1 hj).1
    simp [Array.getD, hlt] at h
end Go.Proofs.Ytimlpehgafjkpaa
