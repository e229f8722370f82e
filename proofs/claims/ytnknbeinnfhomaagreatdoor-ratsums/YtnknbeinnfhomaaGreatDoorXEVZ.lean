/- The second telling's Neg, Abs, and the laws' Make, Small as oracles. -/
import Derived.Test.YtnknbeinnfhomaaGreatDoorYXEVY
import Derived.Test.YtnknbeinnfhomaaGreatDoorXU1
namespace Go.Proofs.YtnknbeinnfhomaaGreatDoor
open Go.RowKit Go.Ev
set_option linter.unusedVariables false
set_option linter.unusedSimpArgs false

set_option maxHeartbeats 4000000 in
set_option maxRecDepth 20000 in
theorem abs2_any {w : World} {a : Value} {p : Rat} (ha : RV w a p) (bp : nr p ≤ 5000) :
    Calls Tryz.prog 17 #[a] w fun e w' => ∃ v, e = .returned v ∧ RV w' v (absQ p) ∧ Fwd w w' := by
  have HA := hid ha
  obtain ⟨vN, vD, rfl, h1, h2⟩ := ha
  obtain ⟨xo, xc, rfl, _, _, _⟩ := h1.parts
  obtain ⟨yo, yc, rfl, _, _, _⟩ := h2.parts
  clear h1 h2
  generalize hln : nl p.num.natAbs = ln at *
  generalize hld : nl p.den = ld at *
  clear hln hld
  have habs : Hid (absQ p = if negQ p then -p else p) := hid (by unfold absQ; rw [negQ_lt]; by_cases h : p < 0 <;> simp [h])
  have kA : BlkV ((w.alloc (.cells #[.bool (negQ p), .slice xo ln xc, .slice yo ld yc] 24)).alloc (.cells #[.bool false, .slice none 0 0, .slice none 0 0] 24)) w.heap.size 24 [.bool (negQ p), .slice xo ln xc, .slice yo ld yc] := (BlkV.made' w w.heap.size (by simp) 24 [.bool (negQ p), .slice xo ln xc, .slice yo ld yc]).alloc _
  have kR : BlkV ((w.alloc (.cells #[.bool (negQ p), .slice xo ln xc, .slice yo ld yc] 24)).alloc (.cells #[.bool false, .slice none 0 0, .slice none 0 0] 24)) (w.heap.size + 1) 24 [.bool false, .slice none 0 0, .slice none 0 0] := BlkV.made' (w.alloc (.cells #[.bool (negQ p), .slice xo ln xc, .slice yo ld yc] 24)) (w.heap.size + 1) (by simp) 24 [.bool false, .slice none 0 0, .slice none 0 0]
  have hF : Fwd w ((w.alloc (.cells #[.bool (negQ p), .slice xo ln xc, .slice yo ld yc] 24)).alloc (.cells #[.bool false, .slice none 0 0, .slice none 0 0] 24)) := ((Fwd.refl w).alloc _).alloc _
  go_enter Tryz.func17, Tryz.ntmps17
  go_upto_region 1 with fail
  generalize ((w.alloc (.cells #[.bool (negQ p), .slice xo ln xc, .slice yo ld yc] 24)).alloc (.cells #[.bool false, .slice none 0 0, .slice none 0 0] 24)) = w0 at kA kR hF ⊢
  have ac0 := BlkV.cell kA 0 rfl
  have ac1 := BlkV.cell kA 1 rfl
  have ac2 := BlkV.cell kA 2 rfl
  have HA0 := hid (HA.out.fwd hF)
  have kR := hid kR
  have hF := hid hF
  clear HA
  cases hs : negQ p with
  | true =>
    rw [hs] at ac0 HA0
    go_wp2_with fail
    refine (neg2_any HA0.out bp).mono ?_
    rintro e w1 ⟨v, rfl, hv, hf1⟩
    have hq : absQ p = -p := by rw [habs.out, hs]; rfl
    rw [← hq] at hv
    have HV := hid hv
    obtain ⟨vN, vD, rfl, h1, h2⟩ := hv
    obtain ⟨no, nc, rfl, _, _, _⟩ := h1.parts
    obtain ⟨mo, mc, rfl, _, _, _⟩ := h2.parts
    clear h1 h2
    generalize negQ (absQ p) = s at *
    generalize nl (absQ p).num.natAbs = ln' at *
    generalize nl (absQ p).den = ld' at *
    have kR1 := kR.out.fwd hf1
    have hF1 := hid (hF.out.trans hf1)
    clear hf1
    have rz0 := BlkV.frozen kR1 0
    have rz1 := BlkV.frozen kR1 1
    have rz2 := BlkV.frozen kR1 2
    have rc0 := BlkV.cell kR1 0 rfl
    have rc1 := BlkV.cell kR1 1 rfl
    have rc2 := BlkV.cell kR1 2 rfl
    have kR1 := hid kR1
    go_wp2_with fail
    have hz := BlkV.set (BlkV.set (BlkV.set kR1.out 0 (.bool s)) 1 (.slice no ln' nc)) 2 (.slice mo ld' mc)
    have hon := only_set3 (w.heap.size + 1) w1 (.bool s) (.slice no ln' nc) (.slice mo ld' mc)
    generalize (((w1.setCell ⟨w.heap.size + 1, 0, none⟩ (.bool s)).setCell ⟨w.heap.size + 1, 1, none⟩ (.slice no ln' nc)).setCell ⟨w.heap.size + 1, 2, none⟩ (.slice mo ld' mc)) = wz at hz hon ⊢
    have e0 := BlkV.cell hz 0 rfl
    have e1 := BlkV.cell hz 1 rfl
    have e2 := BlkV.cell hz 2 rfl
    refine bodyPost_ret (by simp [results, Tryz.results17, go_sem, e0, e1, e2]; try rfl) rfl ?_
    exact ⟨_, rfl, RV.keepV HV.out kR1.out (by intro c hc x; simp at hc; rcases hc with rfl | rfl | rfl <;> simp) hon, hF1.out.wrote hon (by omega)⟩
  | false =>
    rw [hs] at ac0 HA0
    go_wp2_with fail
    refine (neg2_any HA0.out bp).mono ?_
    rintro e wm ⟨u, rfl, hu, hfm⟩
    go_wp2_with fail
    refine (neg2_any hu (by rw [nr_neg]; exact bp)).mono ?_
    rintro e w1 ⟨v, rfl, hv, hf1'⟩
    have hf1 := hfm.trans hf1'
    have hq : absQ p = - -p := by rw [habs.out, hs, Rat.neg_neg]; rfl
    rw [← hq] at hv
    have HV := hid hv
    obtain ⟨vN, vD, rfl, h1, h2⟩ := hv
    obtain ⟨no, nc, rfl, _, _, _⟩ := h1.parts
    obtain ⟨mo, mc, rfl, _, _, _⟩ := h2.parts
    clear h1 h2
    generalize negQ (absQ p) = s at *
    generalize nl (absQ p).num.natAbs = ln' at *
    generalize nl (absQ p).den = ld' at *
    have kR1 := kR.out.fwd hf1
    have hF1 := hid (hF.out.trans hf1)
    clear hf1 hf1' hfm hu
    have rz0 := BlkV.frozen kR1 0
    have rz1 := BlkV.frozen kR1 1
    have rz2 := BlkV.frozen kR1 2
    have rc0 := BlkV.cell kR1 0 rfl
    have rc1 := BlkV.cell kR1 1 rfl
    have rc2 := BlkV.cell kR1 2 rfl
    have kR1 := hid kR1
    go_wp2_with fail
    have hz := BlkV.set (BlkV.set (BlkV.set kR1.out 0 (.bool s)) 1 (.slice no ln' nc)) 2 (.slice mo ld' mc)
    have hon := only_set3 (w.heap.size + 1) w1 (.bool s) (.slice no ln' nc) (.slice mo ld' mc)
    generalize (((w1.setCell ⟨w.heap.size + 1, 0, none⟩ (.bool s)).setCell ⟨w.heap.size + 1, 1, none⟩ (.slice no ln' nc)).setCell ⟨w.heap.size + 1, 2, none⟩ (.slice mo ld' mc)) = wz at hz hon ⊢
    have e0 := BlkV.cell hz 0 rfl
    have e1 := BlkV.cell hz 1 rfl
    have e2 := BlkV.cell hz 2 rfl
    refine bodyPost_ret (by simp [results, Tryz.results17, go_sem, e0, e1, e2]; try rfl) rfl ?_
    exact ⟨_, rfl, RV.keepV HV.out kR1.out (by intro c hc x; simp at hc; rcases hc with rfl | rfl | rfl <;> simp) hon, hF1.out.wrote hon (by omega)⟩

section
variable {st : Bool} {ν : Nat → Rat} {σ : SymD} {γ : Nat → Option (List Value)} {d : QD} (X : QX ν σ d)

def oNeg2 : OQ ν σ γ := orcNeg X 15 neg2_any

def oAbs2 : OQ ν σ γ := orcAbs X 17 abs2_any
end

/-- A number made of a raw one that is a letter: its cells are letters i, i + 1, i + 2. -/
def ansRaw (i r : Nat) : Ans := fun args S => match args with
  | [.agg [.atom (.sym a), .atom (.sym b), .atom (.sym c)]] => bif Nat.beq a i && (Nat.beq b (i + 1) && Nat.beq c (i + 2)) then some (.v (avQ (.v r))) else none
  | _ => none
/-- Two letters at most: which number is made of which. -/
def ansRaw2 (l : List (Nat × Nat)) : Ans := fun args S => match l with
  | [] => none
  | (i, r) :: l => match ansRaw i r args S with
    | some x => some x
    | none => match l with
      | [] => none
      | (j, s) :: _ => ansRaw j s args S
def orcRaw2 {ν : Nat → Rat} {σ : SymD} {γ : Nat → Option (List Value)} (f : FuncId) (i r j z : Nat) (g : Bool → List Nat → List Nat → Rat)
    (h : ∀ {w : World} {a : Value} {s : Bool} {xs ys : List Nat}, RawA w a s xs ys → Calls Tryz.prog f #[a] w fun e w' => ∃ v, e = .returned v ∧ RV w' v (g s xs ys) ∧ Fwd w w')
    (h1 : ∀ w, σ.fact (i + 2) w → ∃ s xs ys, RawA w (.agg #[σ.val i, σ.val (i + 1), σ.val (i + 2)]) s xs ys ∧ ν r = g s xs ys)
    (h2 : ∀ w, σ.fact (j + 2) w → ∃ s xs ys, RawA w (.agg #[σ.val j, σ.val (j + 1), σ.val (j + 2)]) s xs ys ∧ ν z = g s xs ys) : OQ ν σ γ where
  f := f
  ans := ansRaw2 [(i, r), (j, z)]
  ok := by
    intro args S av ha B ρ w vs hS hr
    have one : ∀ {i r : Nat}, (∀ w, σ.fact (i + 2) w → ∃ s xs ys, RawA w (.agg #[σ.val i, σ.val (i + 1), σ.val (i + 2)]) s xs ys ∧ ν r = g s xs ys) → ansRaw i r args S = some av → Calls Tryz.prog f vs.toArray w fun e w' => ∃ v, e = .returned v ∧ av.rel (DomQ true ν σ γ) ρ w' v ∧ Below w.heap.size w w' := by
      intro i r h1 ha
      unfold ansRaw at ha
      split at ha
      · rename_i a b c _
        cases hb : Nat.beq a i && (Nat.beq b (i + 1) && Nat.beq c (i + 2)) with
        | false => rw [hb] at ha; cases ha
        | true =>
          rw [hb] at ha
          simp only [cond_true, Option.some.injEq] at ha
          subst ha
          simp only [Bool.and_eq_true] at hb
          obtain rfl := Nat.eq_of_beq_eq_true hb.1
          obtain rfl := Nat.eq_of_beq_eq_true hb.2.1
          obtain rfl := Nat.eq_of_beq_eq_true hb.2.2
          match vs, hr with
          | [u], ⟨r1, _⟩ =>
            obtain ⟨us, rfl, hu⟩ := r1
            match us, hu with
            | [u0, u1, u2], ⟨s0, s1, s2, _⟩ =>
              obtain ⟨rfl, _⟩ : u0 = _ ∧ _ := s0
              obtain ⟨rfl, _⟩ : u1 = _ ∧ _ := s1
              obtain ⟨rfl, hf⟩ : u2 = _ ∧ _ := s2
              obtain ⟨s, xs, ys, hraw, hq⟩ := h1 w (hf rfl)
              refine (h hraw).mono ?_
              rintro e w' ⟨x, rfl, hx, hf⟩
              exact ⟨x, rfl, avQ_rel (by show RV w' x (ν r); rw [hq]; exact hx), hf⟩
      · cases ha
    unfold ansRaw2 at ha
    simp only at ha
    split at ha
    · rename_i x hx
      obtain rfl := Option.some.inj ha
      exact one h1 hx
    · exact one h2 ha

/-- A small number of a letter. -/
def ansSmall (i r j s : Nat) : Ans := fun args S => match args with
  | [.one (.atom (.sym a))] => bif Nat.beq a i then some (.v (avQ (.v r))) else bif Nat.beq a j then some (.v (avQ (.v s))) else none
  | _ => none
def orcSmall {ν : Nat → Rat} {σ : SymD} {γ : Nat → Option (List Value)} (f : FuncId) (i r j s : Nat) (h : ∀ (w : World) (n : Int), -9223372036854775808 ≤ n → n ≤ 9223372036854775807 → Calls Tryz.prog f #[.int .i64 n] w fun e w' => ∃ v, e = .returned v ∧ RV w' v (smallQ n) ∧ Fwd w w')
    (h1 : ∃ n : Int, σ.val i = .int .i64 n ∧ (-9223372036854775808 ≤ n ∧ n ≤ 9223372036854775807) ∧ ν r = smallQ n) (h2 : ∃ n : Int, σ.val j = .int .i64 n ∧ (-9223372036854775808 ≤ n ∧ n ≤ 9223372036854775807) ∧ ν s = smallQ n) : OQ ν σ γ where
  f := f
  ans := ansSmall i r j s
  ok := by
    intro args S av ha B ρ w vs hS hr
    unfold ansSmall at ha
    split at ha
    · rename_i a
      have one : ∀ {i r : Nat}, (∃ n : Int, σ.val i = .int .i64 n ∧ (-9223372036854775808 ≤ n ∧ n ≤ 9223372036854775807) ∧ ν r = smallQ n) → a = i → av = .v (avQ (.v r)) → Calls Tryz.prog f vs.toArray w fun e w' => ∃ v, e = .returned v ∧ av.rel (DomQ true ν σ γ) ρ w' v ∧ Below w.heap.size w w' := by
        intro i r ⟨n, hn, hb, hq⟩ hai hav
        subst hai hav
        match vs, hr with
        | [u], ⟨r1, _⟩ =>
          obtain rfl : u = .int .i64 n := r1.1.trans hn
          refine (h w n hb.1 hb.2).mono ?_
          rintro e w' ⟨x, rfl, hx, hf⟩
          exact ⟨x, rfl, avQ_rel (by show RV w' x (ν r); rw [hq]; exact hx), hf⟩
      cases hb : Nat.beq a i with
      | true =>
        rw [hb] at ha
        exact one h1 (Nat.eq_of_beq_eq_true hb) (Option.some.inj ha).symm
      | false =>
        rw [hb] at ha
        cases hb2 : Nat.beq a j with
        | true =>
          rw [hb2] at ha
          exact one h2 (Nat.eq_of_beq_eq_true hb2) (Option.some.inj ha).symm
        | false => rw [hb2] at ha; cases ha
    · cases ha
end Go.Proofs.YtnknbeinnfhomaaGreatDoor
