/- GenShapes: what its letters stand for. -/
/- The second telling's Neg, read out by the reader. -/
/- The second telling's Neg, Abs, and the laws' Make, Small as oracles. -/
/- GenLike: what is told of its letters: small numbers of a row, with noughts and ones. -/
import Derived.Test.YtcccejhkblnonaaGreatYXEVV
import Derived.Test.YtcccejhkblnonaaGreatXKGE
import Derived.Test.YtcccejhkblnonaaGreatYXM2
import Derived.Test.YtcccejhkblnonaaGreatYXEVW
import Derived.Test.YtcccejhkblnonaaGreatYXEVE
import Derived.Test.YtcccejhkblnonaaGreatYXP11
namespace Go.Proofs.YtcccejhkblnonaaGreat
open Go.RowKit Go.Ev
set_option linter.unusedVariables false
set_option linter.unusedSimpArgs false

def powQ (q : Rat) : Nat → Rat
  | 0 => 1
  | j + 1 => powQ q j * q
theorem nr_powQ {q : Rat} (h : nr q ≤ 1) : ∀ j, nr (powQ q j) ≤ j + 1
  | 0 => (by decide : nr (1 : Rat) ≤ 1)
  | j + 1 => by
    have := nr_mul (powQ q j) q
    have := nr_powQ h j
    rw [powQ]; omega
theorem nr_small1 (n : Int) : nr (smallQ n) ≤ 1 := by
  unfold smallQ
  have a1 : 0 ≤ n % 41 := Int.emod_nonneg _ (by omega)
  have a2 : n % 41 < 41 := Int.emod_lt_of_pos _ (by omega)
  have b1 : 0 ≤ n.tdiv 41 % 5 := Int.emod_nonneg _ (by omega)
  have b2 : n.tdiv 41 % 5 < 5 := Int.emod_lt_of_pos _ (by omega)
  refine Nat.le_trans (nr_mkRat _ _ (by omega)) ?_
  have h1 := nl_one (show (n % 41 - 20).natAbs < 4294967296 by omega)
  have h2 := nl_one (show 1 + (n.tdiv 41 % 5).toNat < 4294967296 by omega)
  omega

/-- The letters' numbers. -/
def gsV (zs : List Int) (i : Nat) : Rat := if i < 100 then smallQ (rawK zs i) else powQ (smallQ (rawK zs ((i - 100) / 10))) (i % 10)
theorem gsV_low (zs : List Int) {i : Nat} (h : i < 100) : gsV zs i = smallQ (rawK zs i) := if_pos h
theorem gsV_pow (zs : List Int) {p i j : Nat} (h : p = 100 + 10 * i + j) (hj : j < 10) : gsV zs p = powQ (smallQ (rawK zs i)) j := by
  unfold gsV
  rw [if_neg (by omega), show (p - 100) / 10 = i by omega, show p % 10 = j by omega]

/-- A number and a row of numbers that came in. -/
def symN (n : Int) (v : Value) (hv : v.oneCell' = true ∧ ∀ x, v ≠ .int .u32 x) : SymD where
  val := fun i => match i with
    | 0 => .int .i64 n
    | 1 => v
    | _ => .int .i64 0
  fact := fun _ _ => True
  keep := fun _ h => h
  cell := by
    intro i
    split
    · exact ⟨rfl, by simp⟩
    · exact hv
    · exact ⟨rfl, by simp⟩
theorem ns_cell {w : World} {v : Value} {zs : List Int} (h : NsV w v zs) : v.oneCell' = true ∧ ∀ x, v ≠ .int .u32 x := by
  obtain ⟨_, base, cap, rfl, _⟩ := h
  exact ⟨rfl, by simp⟩

theorem gsX {σ : SymD} (zs : List Int) : QX (gsV zs) σ gsD := by
  refine ⟨⟨fun i => ?_⟩, ?_, ?_, ?_, ?_, ?_, ?_, ?_, ?_⟩
  · unfold gsV
    split
    · exact Nat.le_trans (nr_small1 _) (by omega)
    · have := nr_powQ (nr_small1 (rawK zs ((i - 100) / 10))) (i % 10)
      omega
  · intro k p q r h
    change gsBin k p q = some r at h
    unfold gsBin at h
    split at h
    · rename_i i
      obtain rfl := Option.some.inj h
      have e : vq (gsV zs) (.c 1 1) = 1 := by show mkRat 1 1 = 1; rw [Rat.mkRat_one]; rfl
      rw [if_neg (by decide), if_neg (by decide), e, Rat.one_mul]
    · rename_i p i
      rw [if_neg (by decide), if_neg (by decide)]
      cases h7 : Nat.ble i 7 with
      | false => rw [h7] at h; cases h
      | true =>
        have h7' := Nat.le_of_ble_eq_true h7
        rw [h7] at h
        simp only [cond_true] at h
        cases hpi : Nat.beq p i with
        | true =>
          rw [hpi] at h
          simp only [cond_true, Option.some.injEq] at h
          subst h
          obtain rfl := Nat.eq_of_beq_eq_true hpi
          show gsV zs (102 + 10 * p) = gsV zs p * gsV zs p
          rw [gsV_pow zs (i := p) (j := 2) (by omega) (by omega), gsV_low zs (show p < 100 by omega)]
          show (1 * _) * _ = _
          rw [Rat.one_mul]
        | false =>
          rw [hpi] at h
          simp only [cond_false] at h
          cases hr : Nat.ble (102 + 10 * i) p && Nat.ble p (108 + 10 * i) with
          | false => rw [hr] at h; cases h
          | true =>
            rw [hr] at h
            simp only [cond_true, Option.some.injEq] at h
            subst h
            simp only [Bool.and_eq_true] at hr
            have r1 := Nat.le_of_ble_eq_true hr.1
            have r2 := Nat.le_of_ble_eq_true hr.2
            show gsV zs (p + 1) = gsV zs p * gsV zs i
            rw [gsV_pow zs (p := p + 1) (i := i) (j := p - 100 - 10 * i + 1) (by omega) (by omega), gsV_pow zs (p := p) (i := i) (j := p - 100 - 10 * i) (by omega) (by omega), gsV_low zs (show i < 100 by omega)]
            rfl
    · cases h
  · intro p q r h; cases h
  · intro p q r h; cases h
  · intro p q r h; cases h
  · intro p h
    change gsFour p = true at h
    unfold gsFour at h
    split at h
    · rename_i i
      show nr (gsV zs i) ≤ 4
      rw [gsV_low zs (show i < 100 by have := Nat.le_of_ble_eq_true h; omega)]
      exact Nat.le_trans (nr_small1 _) (by omega)
    · cases h
  · intro p r h; cases h
  · intro p q j h; cases h
  · intro p q j h; cases h

theorem gsCx {w : World} {n : Int} {v : Value} {zs : List Int} {t : Tr Func} (ht : TabOK Tryz.prog t) (hv : NsV w v zs) {k : Nat} (n1 : -9223372036854775808 ≤ n) (n2 : n ≤ 9223372036854775807) (hk : n % ((8 : Nat) : Int) = (k : Int)) :
    CxOK (DomQ true (gsV zs) (symN n v (ns_cell hv)) (gw w)) w.heap.size ⟨Tryz.prog, true, t.get, gsO k, gsHook Tryz.prog⟩ :=
  have X : QX (gsV zs) (symN n v (ns_cell hv)) gsD := gsX zs
  cxR_ok (cxS_ok ht ⟨[orcTrue 8 (fun _ => genErrs_read _), orcWithin 16 8 k rfl hk (fun w => within_l5 w n 8 (by omega) (by omega) n1 n2), oMul X, oRight X, oClone X, oRefused X, oMeet X, oInt2, oSame2 X, oMul2 X], rfl⟩
      (opH_le (bigHook_le _ _) (empHook_le _)) (opH_ok (bigHook_ok _) (empHook_ok _)))
    rowLaw_any (fun i r h => by
      obtain ⟨rfl, rfl⟩ : i = 1 ∧ r = 0 := by simpa using h
      exact ⟨zs, fun hS => ns_glob hv hS, fun j hj => by rw [Nat.zero_add]; exact gsV_low zs hj⟩)
end Go.Proofs.YtcccejhkblnonaaGreat

namespace Go.Proofs.YtcccejhkblnonaaGreat
open Go.RowKit Go.Ev
set_option linter.unusedVariables false
set_option linter.unusedSimpArgs false

def noOrc : CallF := fun _ _ _ _ => none
theorem cxN_ok {P : Program} {M : Dom} {B : Nat} {t : Tr Func} (ht : TabOK P t) {hook : OpF} (hl : OpLe hook) (ho : OpOK M B P hook) : CxOK M B ⟨P, M.strict, t.get, noOrc, hook⟩ :=
  ⟨rfl, fun h => ht h, fun f xs S n av dl n' h => (by cases h), fun h => (by cases h), hl, ho⟩

/-- The length of the numerator's limbs is a letter; it is above nought. -/
def lnN : At → Option Nat
  | .num (.v 0) => some 7
  | _ => none
def cmN : Nat → Int → BinOp → Option Bool
  | 7, .ofNat 0, .gtr => some true
  | _, _, _ => none
def hookN (P : Program) : OpF := opH (bigHook P true) (opH (symHook P lnN cmN) app0Hook)
def hookZ (P : Program) : OpF := opH (bigHook P true) app0Hook
/-- Is it the number with this sign? -/
def isNegA (s : Bool) (q : RE) : Option (AV × Dl × Nat) → Bool
  | some (.v (.agg [.lit (.bool b), .atom (.num x), .atom (.den y)]), _, _) => (b == s) && (reB x q && reB y q)
  | _ => false
theorem isNegA_ok {s : Bool} {q : RE} {r : Option (AV × Dl × Nat)} (h : isNegA s q r = true) : ∃ dl n, r = some (.v (.agg [.lit (.bool s), .atom (.num q), .atom (.den q)]), dl, n) := by
  unfold isNegA at h
  split at h
  · simp only [Bool.and_eq_true, beq_iff_eq] at h
    obtain ⟨rfl, h1, h2⟩ := h
    obtain rfl := reB_ok h1
    obtain rfl := reB_ok h2
    exact ⟨_, _, rfl⟩
  · cases h

set_option maxRecDepth 1000000 in
theorem neg2_told : ∃ t : Tr Func, TabOK Tryz.prog t ∧ (isNegA false (.c 0 1) (evalCall ⟨Tryz.prog, true, t.get, noOrc, hookZ Tryz.prog⟩ 1000 50 [.agg [.lit (.bool false), .atom (.num (.c 0 1)), .atom (.den (.c 0 1))]] .e 0) &&
    (isNegA false (.v 0) (evalCall ⟨Tryz.prog, true, t.get, noOrc, hookN Tryz.prog⟩ 1000 50 [.agg [.lit (.bool true), .atom (.num (.v 0)), .atom (.den (.v 0))]] .e 0) &&
     isNegA true (.v 0) (evalCall ⟨Tryz.prog, true, t.get, noOrc, hookN Tryz.prog⟩ 1000 50 [.agg [.lit (.bool false), .atom (.num (.v 0)), .atom (.den (.v 0))]] .e 0))) = true :=
  ⟨Tr.e.put 50 (some Tryz.f50), (TabOK.put (TabOK.e _) ⟨Tryz.func50, by decide +kernel, by decide +kernel⟩), by decide +kernel⟩

theorem neg2_any {w : World} {a : Value} {p : Rat} (ha : RV w a p) (bp : nr p ≤ 5000) :
    Calls Tryz.prog 50 #[a] w fun e w' => ∃ v, e = .returned v ∧ RV w' v (-p) ∧ Fwd w w' := by
  obtain ⟨t, ht, hr⟩ := neg2_told
  simp only [Bool.and_eq_true] at hr
  obtain ⟨hr0, hr1, hr2⟩ := hr
  obtain ⟨vN, vD, rfl, h1, h2⟩ := ha
  have hsz : Sized (fun _ => p) := ⟨fun _ => bp⟩
  have hne : p ≠ 0 → 0 < nl p.num.natAbs := fun h => by
    have : p.num.natAbs ≠ 0 := fun e => h ((natAbs_zero_iff p).1 e)
    rw [nl_pos this]; omega
  have hh : ∀ (hp : p ≠ 0), OpOK (DomQ true (fun _ => p) (symI fun _ => (nl p.num.natAbs : Int)) (fun _ => none)) w.heap.size Tryz.prog (hookN Tryz.prog) := fun hp =>
    opH_ok (bigHook_ok _) (opH_ok (symHook_ok _ (by
      intro d j w u hd hu
      unfold lnN at hd
      split at hd
      · obtain rfl := Option.some.inj hd
        have hu' : Num w u p.num.natAbs := hu.2
        rcases hu'.2 with ⟨rfl, hl⟩ | ⟨b, off, cap, rfl, _⟩
        · exact ⟨none, 0, 0, rfl, by show Value.int .i64 ((lim p.num.natAbs).length : Int) = _; rw [hl]; rfl, fun _ => trivial⟩
        · exact ⟨_, _, cap, rfl, rfl, fun _ => trivial⟩
      · cases hd) (by
      intro j m b r hm
      unfold cmN at hm
      split at hm
      · obtain rfl := Option.some.inj hm
        refine ⟨_, rfl, fun t => intBin_ok ?_ t⟩
        have := hne hp
        simp only [intBin, sameKind, cond_true, ltI_eq]
        rw [decide_eq_true (by show Int.ofNat 0 < _; simp; omega)]
      · cases hm)) (app0Hook_ok hsz))
  have key : ∀ (hook : OpF) (s b : Bool) (q : RE) (σ : SymD), OpLe hook → OpOK (DomQ true (fun _ => p) σ (fun _ => none)) w.heap.size Tryz.prog hook → vq (fun _ => p) q = p → negQ p = s → negQ (-p) = b →
      isNegA b q (evalCall ⟨Tryz.prog, true, t.get, noOrc, hook⟩ 1000 50 [.agg [.lit (.bool s), .atom (.num q), .atom (.den q)]] .e 0) = true →
      Calls Tryz.prog 50 #[.agg #[.bool (negQ p), vN, vD]] w fun e w' => ∃ v, e = .returned v ∧ RV w' v (-p) ∧ Fwd w w' := by
    intro hook s b q σ hle hho hq hs hb hread
    obtain ⟨dl, n, he⟩ := isNegA_ok hread
    refine (told_call (M := DomQ true (fun _ => p) σ (fun _ => none)) (cx := ⟨Tryz.prog, true, t.get, noOrc, hook⟩) (xs := [.agg [.lit (.bool s), .atom (.num q), .atom (.den q)]]) (vs := [.agg #[.bool (negQ p), vN, vD]]) Tryz.checked.mixed
      (cxN_ok ht hle hho) (fun hg => by cases hg) ⟨⟨[.bool (negQ p), vN, vD], rfl, ⟨by rw [hs], rfl⟩, ⟨rfl, by rw [hq]; exact h1⟩, ⟨rfl, by rw [hq]; exact h2⟩, trivial⟩, trivial⟩ he).mono ?_
    rintro e w' ⟨v, ρ', rfl, hv, hbel⟩
    obtain ⟨us, rfl, hu⟩ := hv
    match us, hu with
    | [c1, c2, c3], ⟨r1, r2, r3, _⟩ =>
      obtain ⟨rfl, _⟩ : c1 = _ ∧ _ := r1
      have n2 : Num w' c2 (vq (fun _ => p) q).num.natAbs := r2.2
      have n3 : Num w' c3 (vq (fun _ => p) q).den := r3.2
      rw [hq] at n2 n3
      refine ⟨_, rfl, ⟨c2, c3, by rw [hb], ?_, ?_⟩, hbel⟩
      · rw [Rat.neg_num, Int.natAbs_neg]; exact n2
      · rw [Rat.neg_den]; exact n3
  by_cases hp : p = 0
  · subst hp
    exact key (hookZ Tryz.prog) false false (.c 0 1) (symI fun _ => 0) (opH_le (bigHook_le _ _) app0Hook_le) (opH_ok (bigHook_ok _) (app0Hook_ok hsz)) (Rat.zero_mkRat _) negQ_zero (by rw [Rat.neg_zero]; exact negQ_zero) hr0
  · cases hs : negQ p with
    | true =>
      have := key (hookN Tryz.prog) true false (.v 0) (symI fun _ => (nl p.num.natAbs : Int)) (opH_le (bigHook_le _ _) (opH_le (symHook_le _ _ _) app0Hook_le)) (hh hp) rfl hs (by rw [Q_neg_neg hp, hs]; rfl) hr1
      rwa [hs] at this
    | false =>
      have := key (hookN Tryz.prog) false true (.v 0) (symI fun _ => (nl p.num.natAbs : Int)) (opH_le (bigHook_le _ _) (opH_le (symHook_le _ _ _) app0Hook_le)) (hh hp) rfl hs (by rw [Q_neg_neg hp, hs]; rfl) hr2
      rwa [hs] at this
end Go.Proofs.YtcccejhkblnonaaGreat

namespace Go.Proofs.YtcccejhkblnonaaGreat
open Go.RowKit Go.Ev
set_option linter.unusedVariables false
set_option linter.unusedSimpArgs false

section
variable {st : Bool} {ν : Nat → Rat} {σ : SymD} {γ : Nat → Option (List Value)} {d : QD} (X : QX ν σ d)

def oNeg2 : OQ ν σ γ := orcNeg X 50 neg2_any

end

/-- A number made of a raw one that is a letter: its cells are letters i, i + 1, i + 2. -/
def ansRaw (i r : Nat) : Ans := fun args S => match args with
  | [.agg [.atom (.sym a), .atom (.sym b), .atom (.sym c)]] => bif Nat.beq a i && (Nat.beq b (i + 1) && Nat.beq c (i + 2)) then some (.v (avQ (.v r))) else none
  | _ => none
/-- Two letters at most: which number is made of which. -/
def ansRaw2 (l : List (Nat × Nat)) : Ans := fun args S => match l with
  | [] => none
  | (i, r) :: l => match ansRaw i r args S with
    | some x => some x
    | none => match l with
      | [] => none
      | (j, s) :: _ => ansRaw j s args S
def orcRaw2 {ν : Nat → Rat} {σ : SymD} {γ : Nat → Option (List Value)} (f : FuncId) (i r j z : Nat) (g : Bool → List Nat → List Nat → Rat)
    (h : ∀ {w : World} {a : Value} {s : Bool} {xs ys : List Nat}, RawA w a s xs ys → Calls Tryz.prog f #[a] w fun e w' => ∃ v, e = .returned v ∧ RV w' v (g s xs ys) ∧ Fwd w w')
    (h1 : ∀ w, σ.fact (i + 2) w → ∃ s xs ys, RawA w (.agg #[σ.val i, σ.val (i + 1), σ.val (i + 2)]) s xs ys ∧ ν r = g s xs ys)
    (h2 : ∀ w, σ.fact (j + 2) w → ∃ s xs ys, RawA w (.agg #[σ.val j, σ.val (j + 1), σ.val (j + 2)]) s xs ys ∧ ν z = g s xs ys) : OQ ν σ γ where
  f := f
  ans := ansRaw2 [(i, r), (j, z)]
  ok := by
    intro args S av ha B ρ w vs hS hr
    have one : ∀ {i r : Nat}, (∀ w, σ.fact (i + 2) w → ∃ s xs ys, RawA w (.agg #[σ.val i, σ.val (i + 1), σ.val (i + 2)]) s xs ys ∧ ν r = g s xs ys) → ansRaw i r args S = some av → Calls Tryz.prog f vs.toArray w fun e w' => ∃ v, e = .returned v ∧ av.rel (DomQ true ν σ γ) ρ w' v ∧ Below w.heap.size w w' := by
      intro i r h1 ha
      unfold ansRaw at ha
      split at ha
      · rename_i a b c _
        cases hb : Nat.beq a i && (Nat.beq b (i + 1) && Nat.beq c (i + 2)) with
        | false => rw [hb] at ha; cases ha
        | true =>
          rw [hb] at ha
          simp only [cond_true, Option.some.injEq] at ha
          subst ha
          simp only [Bool.and_eq_true] at hb
          obtain rfl := Nat.eq_of_beq_eq_true hb.1
          obtain rfl := Nat.eq_of_beq_eq_true hb.2.1
          obtain rfl := Nat.eq_of_beq_eq_true hb.2.2
          match vs, hr with
          | [u], ⟨r1, _⟩ =>
            obtain ⟨us, rfl, hu⟩ := r1
            match us, hu with
            | [u0, u1, u2], ⟨s0, s1, s2, _⟩ =>
              obtain ⟨rfl, _⟩ : u0 = _ ∧ _ := s0
              obtain ⟨rfl, _⟩ : u1 = _ ∧ _ := s1
              obtain ⟨rfl, hf⟩ : u2 = _ ∧ _ := s2
              obtain ⟨s, xs, ys, hraw, hq⟩ := h1 w (hf rfl)
              refine (h hraw).mono ?_
              rintro e w' ⟨x, rfl, hx, hf⟩
              exact ⟨x, rfl, avQ_rel (by show RV w' x (ν r); rw [hq]; exact hx), hf⟩
      · cases ha
    unfold ansRaw2 at ha
    simp only at ha
    split at ha
    · rename_i x hx
      obtain rfl := Option.some.inj ha
      exact one h1 hx
    · exact one h2 ha

/-- A small number of a letter. -/
def ansSmall (i r j s : Nat) : Ans := fun args S => match args with
  | [.one (.atom (.sym a))] => bif Nat.beq a i then some (.v (avQ (.v r))) else bif Nat.beq a j then some (.v (avQ (.v s))) else none
  | _ => none
def orcSmall {ν : Nat → Rat} {σ : SymD} {γ : Nat → Option (List Value)} (f : FuncId) (i r j s : Nat) (h : ∀ (w : World) (n : Int), -9223372036854775808 ≤ n → n ≤ 9223372036854775807 → Calls Tryz.prog f #[.int .i64 n] w fun e w' => ∃ v, e = .returned v ∧ RV w' v (smallQ n) ∧ Fwd w w')
    (h1 : ∃ n : Int, σ.val i = .int .i64 n ∧ (-9223372036854775808 ≤ n ∧ n ≤ 9223372036854775807) ∧ ν r = smallQ n) (h2 : ∃ n : Int, σ.val j = .int .i64 n ∧ (-9223372036854775808 ≤ n ∧ n ≤ 9223372036854775807) ∧ ν s = smallQ n) : OQ ν σ γ where
  f := f
  ans := ansSmall i r j s
  ok := by
    intro args S av ha B ρ w vs hS hr
    unfold ansSmall at ha
    split at ha
    · rename_i a
      have one : ∀ {i r : Nat}, (∃ n : Int, σ.val i = .int .i64 n ∧ (-9223372036854775808 ≤ n ∧ n ≤ 9223372036854775807) ∧ ν r = smallQ n) → a = i → av = .v (avQ (.v r)) → Calls Tryz.prog f vs.toArray w fun e w' => ∃ v, e = .returned v ∧ av.rel (DomQ true ν σ γ) ρ w' v ∧ Below w.heap.size w w' := by
        intro i r ⟨n, hn, hb, hq⟩ hai hav
        subst hai hav
        match vs, hr with
        | [u], ⟨r1, _⟩ =>
          obtain rfl : u = .int .i64 n := r1.1.trans hn
          refine (h w n hb.1 hb.2).mono ?_
          rintro e w' ⟨x, rfl, hx, hf⟩
          exact ⟨x, rfl, avQ_rel (by show RV w' x (ν r); rw [hq]; exact hx), hf⟩
      cases hb : Nat.beq a i with
      | true =>
        rw [hb] at ha
        exact one h1 (Nat.eq_of_beq_eq_true hb) (Option.some.inj ha).symm
      | false =>
        rw [hb] at ha
        cases hb2 : Nat.beq a j with
        | true =>
          rw [hb2] at ha
          exact one h2 (Nat.eq_of_beq_eq_true hb2) (Option.some.inj ha).symm
        | false => rw [hb2] at ha; cases ha
    · cases ha
end Go.Proofs.YtcccejhkblnonaaGreat

namespace Go.Proofs.YtcccejhkblnonaaGreat
open Go.RowKit Go.Ev
set_option linter.unusedVariables false
set_option linter.unusedSimpArgs false

/-- Sums with nought, products with nought, with one. -/
def glBin : Nat → RE → RE → Option RE
  | 0, .v i, .c 0 1 => some (.v i)
  | 0, .c 0 1, .v i => some (.v i)
  | 2, .v i, .c 0 1 => some (.c 0 1)
  | 2, .c 0 1, .v i => some (.c 0 1)
  | 2, .v i, .c 1 1 => some (.v i)
  | 2, .c 1 1, .v i => some (.v i)
  | 1, .c 0 1, .v i => bif Nat.ble i 99 then some (.v (i + 100)) else bif Nat.ble i 199 then some (.v (i - 100)) else none
  | _, _, _ => none
def glD : QD := ⟨glBin, fun _ _ => none, fun _ _ => none, fun _ _ => none, gsFour, fun _ => none, fun _ _ => none, fun _ _ => none⟩

/-- What is told of what is called. -/
def glL (k : Nat) : List (FuncId × Ans) :=
  [(8, ansTrue), (16, ansWithin 6 k), (76, ansBin glD 2), (79, ansBin glD 0), (86, ansRight1 glD), (75, ansClone), (71, ansRefused glD), (46, ansMeet glD),
   (23, ansConst (.c 0 1)), (17, ansInt), (13, ansSame glD), (50, ansNeg glD)]
def glO (k : Nat) : CallF := orcRow 27 [(1, 0)] (orcD (glL k))

/-- The letters' numbers: small ones, their negatives. -/
def glV (zs : List Int) (i : Nat) : Rat := if i < 100 then smallQ (rawK zs i) else 0 - smallQ (rawK zs (i - 100))
theorem glV_low (zs : List Int) {i : Nat} (h : i < 100) : glV zs i = smallQ (rawK zs i) := if_pos h
theorem glV_neg (zs : List Int) {i : Nat} (h : i < 100) : glV zs (i + 100) = 0 - smallQ (rawK zs i) := by
  unfold glV
  rw [if_neg (by omega), Nat.add_sub_cancel]

theorem glX {σ : SymD} (zs : List Int) : QX (glV zs) σ glD := by
  have z : ∀ ν : Nat → Rat, vq ν (.c 0 1) = 0 := fun _ => Rat.zero_mkRat _
  have o : ∀ ν : Nat → Rat, vq ν (.c 1 1) = 1 := fun _ => by show mkRat 1 1 = 1; rw [Rat.mkRat_one]; rfl
  refine ⟨⟨fun i => ?_⟩, ?_, ?_, ?_, ?_, ?_, ?_, ?_, ?_⟩
  · unfold glV
    split
    · exact Nat.le_trans (nr_small1 _) (by omega)
    · have h1 := nr_sub 0 (smallQ (rawK zs (i - 100)))
      have h2 := nr_small1 (rawK zs (i - 100))
      have n0 : nr (0 : Rat) ≤ 1 := by decide
      omega
  · intro k p q r h
    change glBin k p q = some r at h
    unfold glBin at h
    split at h
    · obtain rfl := Option.some.inj h
      rw [if_pos rfl, z, Rat.add_zero]
    · obtain rfl := Option.some.inj h
      rw [if_pos rfl, z, Rat.zero_add]
    · obtain rfl := Option.some.inj h
      rw [if_neg (by decide), if_neg (by decide), z, Rat.mul_zero]
    · obtain rfl := Option.some.inj h
      rw [if_neg (by decide), if_neg (by decide), z, Rat.zero_mul]
    · obtain rfl := Option.some.inj h
      rw [if_neg (by decide), if_neg (by decide), o, Rat.mul_one]
    · obtain rfl := Option.some.inj h
      rw [if_neg (by decide), if_neg (by decide), o, Rat.one_mul]
    · rename_i i
      rw [if_neg (by decide), if_pos rfl, z]
      cases h1 : Nat.ble i 99 with
      | true =>
        have h1' := Nat.le_of_ble_eq_true h1
        rw [h1] at h
        obtain rfl := Option.some.inj h
        show glV zs (i + 100) = 0 - glV zs i
        rw [glV_neg zs (by omega), glV_low zs (by omega)]
      | false =>
        rw [h1] at h
        simp only [cond_false] at h
        cases h2 : Nat.ble i 199 with
        | false => rw [h2] at h; cases h
        | true =>
          have h2' := Nat.le_of_ble_eq_true h2
          have h1' : ¬ i ≤ 99 := fun hh => by rw [Nat.ble_eq_true_of_le hh] at h1; cases h1
          rw [h2] at h
          obtain rfl := Option.some.inj h
          show glV zs (i - 100) = 0 - glV zs i
          rw [glV_low zs (show i - 100 < 100 by omega), show i = (i - 100) + 100 by omega, glV_neg zs (show i - 100 < 100 by omega)]
          rw [Nat.add_sub_cancel]
          grind
    · cases h
  · intro p q r h; cases h
  · intro p q r h; cases h
  · intro p q r h; cases h
  · intro p h
    change gsFour p = true at h
    unfold gsFour at h
    split at h
    · rename_i i
      show nr (glV zs i) ≤ 4
      rw [glV_low zs (show i < 100 by have := Nat.le_of_ble_eq_true h; omega)]
      exact Nat.le_trans (nr_small1 _) (by omega)
    · cases h
  · intro p r h; cases h
  · intro p q j h; cases h
  · intro p q j h; cases h

theorem glCx {w : World} {n : Int} {v : Value} {zs : List Int} {t : Tr Func} (ht : TabOK Tryz.prog t) (hv : NsV w v zs) {k : Nat} (n1 : -9223372036854775808 ≤ n) (n2 : n ≤ 9223372036854775807) (hk : n % ((6 : Nat) : Int) = (k : Int)) :
    CxOK (DomQ true (glV zs) (symN n v (ns_cell hv)) (gw w)) w.heap.size ⟨Tryz.prog, true, t.get, glO k, gsHook Tryz.prog⟩ :=
  have X : QX (glV zs) (symN n v (ns_cell hv)) glD := glX zs
  cxR_ok (cxS_ok ht ⟨[orcTrue 8 (fun _ => genErrs_read _), orcWithin 16 6 k rfl hk (fun w => within_l5 w n 6 (by omega) (by omega) n1 n2), oMul X, oAdd X, oRight X, oClone X, oRefused X, oMeet X, oZero2, oInt2, oSame2 X, oNeg2 X], rfl⟩
      (opH_le (bigHook_le _ _) (empHook_le _)) (opH_ok (bigHook_ok _) (empHook_ok _)))
    rowLaw_any (fun i r h => by
      obtain ⟨rfl, rfl⟩ : i = 1 ∧ r = 0 := by simpa using h
      exact ⟨zs, fun hS => ns_glob hv hS, fun j hj => by rw [Nat.zero_add]; exact glV_low zs hj⟩)
end Go.Proofs.YtcccejhkblnonaaGreat
