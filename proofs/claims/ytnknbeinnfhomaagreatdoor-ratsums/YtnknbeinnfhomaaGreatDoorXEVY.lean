/- The second telling's Neg, read out by the reader. -/
import Derived.Test.YtnknbeinnfhomaaGreatDoorXEVX
namespace Go.Proofs.YtnknbeinnfhomaaGreatDoor
open Go.RowKit Go.Ev
set_option linter.unusedVariables false
set_option linter.unusedSimpArgs false

def noOrc : CallF := fun _ _ _ _ => none
theorem cxN_ok {P : Program} {M : Dom} {B : Nat} {t : Tr Func} (ht : TabOK P t) {hook : OpF} (hl : OpLe hook) (ho : OpOK M B P hook) : CxOK M B ⟨P, M.strict, t.get, noOrc, hook⟩ :=
  ⟨rfl, fun h => ht h, fun f xs S n av dl n' h => (by cases h), fun h => (by cases h), hl, ho⟩

/-- The length of the numerator's limbs is a letter; it is above nought. -/
def lnN : At → Option Nat
  | .num (.v 0) => some 7
  | _ => none
def cmN : Nat → Int → BinOp → Option Bool
  | 7, .ofNat 0, .gtr => some true
  | _, _, _ => none
def hookN (P : Program) : OpF := opH (bigHook P true) (opH (symHook P lnN cmN) app0Hook)
def hookZ (P : Program) : OpF := opH (bigHook P true) app0Hook
/-- Is it the number with this sign? -/
def isNegA (s : Bool) (q : RE) : Option (AV × Dl × Nat) → Bool
  | some (.v (.agg [.lit (.bool b), .atom (.num x), .atom (.den y)]), _, _) => (b == s) && (reB x q && reB y q)
  | _ => false
theorem isNegA_ok {s : Bool} {q : RE} {r : Option (AV × Dl × Nat)} (h : isNegA s q r = true) : ∃ dl n, r = some (.v (.agg [.lit (.bool s), .atom (.num q), .atom (.den q)]), dl, n) := by
  unfold isNegA at h
  split at h
  · simp only [Bool.and_eq_true, beq_iff_eq] at h
    obtain ⟨rfl, h1, h2⟩ := h
    obtain rfl := reB_ok h1
    obtain rfl := reB_ok h2
    exact ⟨_, _, rfl⟩
  · cases h

set_option maxRecDepth 1000000 in
theorem neg2_told : ∃ t : Tr Func, TabOK Tryz.prog t ∧ (isNegA false (.c 0 1) (evalCall ⟨Tryz.prog, true, t.get, noOrc, hookZ Tryz.prog⟩ 1000 15 [.agg [.lit (.bool false), .atom (.num (.c 0 1)), .atom (.den (.c 0 1))]] .e 0) &&
    (isNegA false (.v 0) (evalCall ⟨Tryz.prog, true, t.get, noOrc, hookN Tryz.prog⟩ 1000 15 [.agg [.lit (.bool true), .atom (.num (.v 0)), .atom (.den (.v 0))]] .e 0) &&
     isNegA true (.v 0) (evalCall ⟨Tryz.prog, true, t.get, noOrc, hookN Tryz.prog⟩ 1000 15 [.agg [.lit (.bool false), .atom (.num (.v 0)), .atom (.den (.v 0))]] .e 0))) = true :=
  ⟨Tr.e.put 15 (some Tryz.f15), (TabOK.put (TabOK.e _) ⟨Tryz.func15, by decide +kernel, by decide +kernel⟩), by decide +kernel⟩

theorem neg2_any {w : World} {a : Value} {p : Rat} (ha : RV w a p) (bp : nr p ≤ 5000) :
    Calls Tryz.prog 15 #[a] w fun e w' => ∃ v, e = .returned v ∧ RV w' v (-p) ∧ Fwd w w' := by
  obtain ⟨t, ht, hr⟩ := neg2_told
  simp only [Bool.and_eq_true] at hr
  obtain ⟨hr0, hr1, hr2⟩ := hr
  obtain ⟨vN, vD, rfl, h1, h2⟩ := ha
  have hsz : Sized (fun _ => p) := ⟨fun _ => bp⟩
  have hne : p ≠ 0 → 0 < nl p.num.natAbs := fun h => by
    have : p.num.natAbs ≠ 0 := fun e => h ((natAbs_zero_iff p).1 e)
    rw [nl_pos this]; omega
  have hh : ∀ (hp : p ≠ 0), OpOK (DomQ true (fun _ => p) (symI fun _ => (nl p.num.natAbs : Int)) (fun _ => none)) w.heap.size Tryz.prog (hookN Tryz.prog) := fun hp =>
    opH_ok (bigHook_ok _) (opH_ok (symHook_ok _ (by
      intro d j w u hd hu
      unfold lnN at hd
      split at hd
      · obtain rfl := Option.some.inj hd
        have hu' : Num w u p.num.natAbs := hu.2
        rcases hu'.2 with ⟨rfl, hl⟩ | ⟨b, off, cap, rfl, _⟩
        · exact ⟨none, 0, 0, rfl, by show Value.int .i64 ((lim p.num.natAbs).length : Int) = _; rw [hl]; rfl, fun _ => trivial⟩
        · exact ⟨_, _, cap, rfl, rfl, fun _ => trivial⟩
      · cases hd) (by
      intro j m b r hm
      unfold cmN at hm
      split at hm
      · obtain rfl := Option.some.inj hm
        refine ⟨_, rfl, fun t => intBin_ok ?_ t⟩
        have := hne hp
        simp only [intBin, sameKind, cond_true, ltI_eq]
        rw [decide_eq_true (by show Int.ofNat 0 < _; simp; omega)]
      · cases hm)) (app0Hook_ok hsz))
  have key : ∀ (hook : OpF) (s b : Bool) (q : RE) (σ : SymD), OpLe hook → OpOK (DomQ true (fun _ => p) σ (fun _ => none)) w.heap.size Tryz.prog hook → vq (fun _ => p) q = p → negQ p = s → negQ (-p) = b →
      isNegA b q (evalCall ⟨Tryz.prog, true, t.get, noOrc, hook⟩ 1000 15 [.agg [.lit (.bool s), .atom (.num q), .atom (.den q)]] .e 0) = true →
      Calls Tryz.prog 15 #[.agg #[.bool (negQ p), vN, vD]] w fun e w' => ∃ v, e = .returned v ∧ RV w' v (-p) ∧ Fwd w w' := by
    intro hook s b q σ hle hho hq hs hb hread
    obtain ⟨dl, n, he⟩ := isNegA_ok hread
    refine (told_call (M := DomQ true (fun _ => p) σ (fun _ => none)) (cx := ⟨Tryz.prog, true, t.get, noOrc, hook⟩) (xs := [.agg [.lit (.bool s), .atom (.num q), .atom (.den q)]]) (vs := [.agg #[.bool (negQ p), vN, vD]]) Tryz.checked.mixed
      (cxN_ok ht hle hho) (fun hg => by cases hg) ⟨⟨[.bool (negQ p), vN, vD], rfl, ⟨by rw [hs], rfl⟩, ⟨rfl, by rw [hq]; exact h1⟩, ⟨rfl, by rw [hq]; exact h2⟩, trivial⟩, trivial⟩ he).mono ?_
    rintro e w' ⟨v, ρ', rfl, hv, hbel⟩
    obtain ⟨us, rfl, hu⟩ := hv
    match us, hu with
    | [c1, c2, c3], ⟨r1, r2, r3, _⟩ =>
      obtain ⟨rfl, _⟩ : c1 = _ ∧ _ := r1
      have n2 : Num w' c2 (vq (fun _ => p) q).num.natAbs := r2.2
      have n3 : Num w' c3 (vq (fun _ => p) q).den := r3.2
      rw [hq] at n2 n3
      refine ⟨_, rfl, ⟨c2, c3, by rw [hb], ?_, ?_⟩, hbel⟩
      · rw [Rat.neg_num, Int.natAbs_neg]; exact n2
      · rw [Rat.neg_den]; exact n3
  by_cases hp : p = 0
  · subst hp
    exact key (hookZ Tryz.prog) false false (.c 0 1) (symI fun _ => 0) (opH_le (bigHook_le _ _) app0Hook_le) (opH_ok (bigHook_ok _) (app0Hook_ok hsz)) (Rat.zero_mkRat _) negQ_zero (by rw [Rat.neg_zero]; exact negQ_zero) hr0
  · cases hs : negQ p with
    | true =>
      have := key (hookN Tryz.prog) true false (.v 0) (symI fun _ => (nl p.num.natAbs : Int)) (opH_le (bigHook_le _ _) (opH_le (symHook_le _ _ _) app0Hook_le)) (hh hp) rfl hs (by rw [Q_neg_neg hp, hs]; rfl) hr1
      rwa [hs] at this
    | false =>
      have := key (hookN Tryz.prog) false true (.v 0) (symI fun _ => (nl p.num.natAbs : Int)) (opH_le (bigHook_le _ _) (opH_le (symHook_le _ _ _) app0Hook_le)) (hh hp) rfl hs (by rw [Q_neg_neg hp, hs]; rfl) hr2
      rwa [hs] at this
end Go.Proofs.YtnknbeinnfhomaaGreatDoor
