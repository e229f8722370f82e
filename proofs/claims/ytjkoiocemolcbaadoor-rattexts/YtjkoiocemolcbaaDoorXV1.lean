/- A region that draws its order, by an invariant: whatever comes up next keeps it. Structs' variables that are made in such a region. -/
import Derived.Test.YtjkoiocemolcbaaDoorXP6
namespace Go.Proofs.YtjkoiocemolcbaaDoor
open Go.RowKit
set_option linter.unusedVariables false

theorem count_set {l : List Bool} {i : Nat} (h : l[i]? = some false) : (l.set i true).countP (· == false) + 1 = l.countP (· == false) := by
  induction l generalizing i with
  | nil => simp at h
  | cons x xs ih =>
    cases i with
    | zero =>
      simp at h
      subst h
      simp
    | succ i =>
      simp at h
      have := ih h
      simp only [List.set_cons_succ, List.countP_cons]
      omega

theorem wpAny_inv {P : Program} {ops : Array Oper} {Q : Exit → Act → World → Prop} {md : Region.Mode} (I : Array Bool → Act → World → Prop)
    (hsz : ∀ listed a w, I listed a w → listed.size = ops.size)
    (hac : ∀ (i : Nat) (o : Oper), ops[i]? = some o → ∀ e ∈ o.after, e.on < i)
    (hstep : ∀ listed a w (i : Nat), I listed a w → i ∈ Region.ready md ops listed → wpOp P ops Q i (I (listed.setIfInBounds i true)) a w)
    (hdone : ∀ listed a w, I listed a w → (∀ i, i < ops.size → listed.getD i true = true) → Q .normal a w) :
    ∀ (fuel : Nat) listed a w, I listed a w → listed.toList.countP (· == false) ≤ fuel → wpAny P md ops Q fuel listed a w := by
  have hall : ∀ listed a w, I listed a w → Region.ready md ops listed = [] → ∀ i, i < ops.size → listed.getD i true = true := by
    intro listed a w hI hr i
    induction i using Nat.strongRecOn with
    | ind i ih =>
      intro hi
      cases hb : listed.getD i true with
      | true => rfl
      | false =>
        exfalso
        have hm : i ∈ Region.ready md ops listed := by
          rw [mem_ready]
          refine ⟨hb, ops[i], by simp [hi], fun e he _ => ?_⟩
          have h1 := hac i ops[i] (by simp [hi]) e he
          have h2 := ih e.on h1 (by omega)
          have hs := hsz listed a w hI
          rw [Array.getD_eq_getD_getElem?] at h2 ⊢
          have hlt : e.on < listed.size := by omega
          simp [hlt] at h2 ⊢
          exact h2
        rw [hr] at hm
        cases hm
  have hless : ∀ (listed : Array Bool) (i : Nat), listed.getD i true = false → (listed.setIfInBounds i true).toList.countP (· == false) + 1 = listed.toList.countP (· == false) := by
    intro listed i h
    rw [Array.getD_eq_getD_getElem?] at h
    rcases Nat.lt_or_ge i listed.size with hlt | hge
    · simp [hlt] at h
      rw [Array.toList_setIfInBounds]
      exact count_set (by simp [hlt, h])
    · simp [Array.getElem?_eq_none hge] at h
  intro fuel
  induction fuel with
  | zero =>
    intro listed a w hI hc
    have h0 : Region.ready md ops listed = [] := by
      cases hr : Region.ready md ops listed with
      | nil => rfl
      | cons i rs =>
        exfalso
        have hm : i ∈ Region.ready md ops listed := by rw [hr]; simp
        have := hless listed i (mem_ready.1 hm).1
        omega
    exact ⟨h0, hdone _ _ _ hI (hall _ _ _ hI h0)⟩
  | succ fuel ih =>
    intro listed a w hI hc
    refine ⟨fun h0 => hdone _ _ _ hI (hall _ _ _ hI h0), fun i hi => ?_⟩
    refine wpOp_mono (fun a' w' h' => ih _ _ _ h' ?_) (hstep listed a w i hI hi)
    have := hless listed i (mem_ready.1 hi).1
    omega

/-- A variable that is made in the region: once made (ba) it is a block of its own; once stored (bs) it holds v. -/
def VarS (w : World) (base : Nat) (T : TypeId) (zero : List Value) (ba bs : Bool) (s v : Value) : Prop :=
  ba = true → ∃ g, s = .pointer (some ⟨g, 0, none⟩) ∧ base ≤ g ∧ (bs = false → BlkV w g T zero) ∧ (bs = true → ∃ cs : List Value, v = .agg cs.toArray ∧ BlkV w g T cs)
/-- Two of them. -/
def VarD (ba bb : Bool) (s t : Value) : Prop := ba = true → bb = true → s ≠ t
theorem VarS.fwd {w w' : World} {base : Nat} {T : TypeId} {zero : List Value} {ba bs : Bool} {s v : Value} (h : VarS w base T zero ba bs s v) (k : Fwd w w') : VarS w' base T zero ba bs s v := by
  intro hb
  obtain ⟨g, h1, h2, h3, h4⟩ := h hb
  exact ⟨g, h1, h2, fun e => (h3 e).fwd k, fun e => by obtain ⟨cs, e1, e2⟩ := h4 e; exact ⟨cs, e1, e2.fwd k⟩⟩
theorem VarS.only {w w' : World} {base g : Nat} {T : TypeId} {zero : List Value} {ba bs : Bool} {s v : Value} (h : VarS w base T zero ba bs s v) (hne : ba = true → s ≠ .pointer (some ⟨g, 0, none⟩)) (k : Only g w w') : VarS w' base T zero ba bs s v := by
  intro hb
  obtain ⟨g', h1, h2, h3, h4⟩ := h hb
  have hg : g' ≠ g := by
    rintro rfl
    exact hne hb h1
  exact ⟨g', h1, h2, fun e => BlkV.only (h3 e) k hg, fun e => by obtain ⟨cs, e1, e2⟩ := h4 e; exact ⟨cs, e1, BlkV.only e2 k hg⟩⟩
theorem VarS.lt {w : World} {base : Nat} {T : TypeId} {zero : List Value} {ba bs : Bool} {s v : Value} (h : VarS w base T zero ba bs s v) : ba = true → s ≠ .pointer (some ⟨w.heap.size, 0, none⟩) := by
  intro hb e
  obtain ⟨g, h1, h2, h3, h4⟩ := h hb
  rw [h1] at e
  injection e with e
  injection e with e
  injection e with e
  cases bs
  · have := (h3 rfl).lt; omega
  · obtain ⟨cs, _, e2⟩ := h4 rfl
    have := e2.lt; omega
theorem VarS.none (w : World) (base : Nat) (T : TypeId) (zero : List Value) (bs : Bool) (s v : Value) : VarS w base T zero false bs s v := fun h => by cases h
theorem VarD.left (b : Bool) (s t : Value) : VarD false b s t := fun h => by cases h
theorem VarD.right (b : Bool) (s t : Value) : VarD b false s t := fun _ h => by cases h
theorem VarS.unstored {w : World} {base : Nat} {T : TypeId} {zero : List Value} {ba : Bool} {s v v' : Value} (h : VarS w base T zero ba false s v) : VarS w base T zero ba false s v' := by
  intro hb
  obtain ⟨g, h1, h2, h3, h4⟩ := h hb
  exact ⟨g, h1, h2, h3, fun e => by cases e⟩

/-- Each waits only for what stands ahead of it. -/
def acyc (ops : Array Oper) : Bool := (List.range ops.size).all fun i => ((ops[i]?).map fun o => o.after.all fun e => decide (e.on < i)).getD true
theorem acyc_spec {ops : Array Oper} (h : acyc ops = true) : ∀ (i : Nat) (o : Oper), ops[i]? = some o → ∀ e ∈ o.after, e.on < i := by
  intro i o ho e he
  have hlt : i < ops.size := (Array.getElem?_eq_some_iff.1 ho).1
  unfold acyc at h
  rw [List.all_eq_true] at h
  have := h i (by simpa using hlt)
  rw [ho] at this
  simp only [Option.map_some, Option.getD_some, Array.all_eq_true_iff_forall_mem] at this
  simpa using this e he

theorem wp_region_inv {P : Program} {id : Nat} {ops : Array Oper} {Q : Exit → Act → World → Prop} {a : Act} {w : World} (I : Act → Array Bool → Act → World → Prop) (hm : P.follows .mixedOrders = true) (hac : acyc ops = true)
    (h0 : I a (Array.replicate ops.size false) a w.drew)
    (hsz : ∀ listed a' w', I a listed a' w' → listed.size = ops.size)
    (hstep : ∀ listed a' w' (i : Nat), I a listed a' w' → i ∈ Region.ready .any ops listed → wpOp P ops Q i (I a (listed.setIfInBounds i true)) a' w')
    (hdone : ∀ listed a' w', I a listed a' w' → (∀ i, i < ops.size → listed.getD i true = true) → Q .normal a' w') : (Code.region id ops true).wp P Q a w := by
  refine wp_region_any hm (wpAny_inv (I a) hsz (acyc_spec hac) hstep hdone ops.size _ a _ h0 ?_)
  refine Nat.le_trans List.countP_le_length ?_
  simp

end Go.Proofs.YtjkoiocemolcbaaDoor
