/- The second telling's Neg, read out by the reader. -/
/- within, of several chapters' laws: what is left. -/
/- The second telling's small numbers, and rows of them (laws of chapter 2). -/
import Derived.Test.YtnknbeinnfhomaaGreatDoorXEVX
import Derived.Test.YtnknbeinnfhomaaGreatDoorKD
import Derived.Test.YtnknbeinnfhomaaGreatDoorKI
import Derived.Test.YtnknbeinnfhomaaGreatDoorYXN1
import Derived.Test.YtnknbeinnfhomaaGreatDoorXEV7
namespace Go.Proofs.YtnknbeinnfhomaaGreatDoor
open Go.RowKit Go.Ev
set_option linter.unusedVariables false
set_option linter.unusedSimpArgs false

def noOrc : CallF := fun _ _ _ _ => none
theorem cxN_ok {P : Program} {M : Dom} {B : Nat} {t : Tr Func} (ht : TabOK P t) {hook : OpF} (hl : OpLe hook) (ho : OpOK M B P hook) : CxOK M B ⟨P, M.strict, t.get, noOrc, hook⟩ :=
  ⟨rfl, fun h => ht h, fun f xs S n av dl n' h => (by cases h), fun h => (by cases h), hl, ho⟩

/-- The length of the numerator's limbs is a letter; it is above nought. -/
def lnN : At → Option Nat
  | .num (.v 0) => some 7
  | _ => none
def cmN : Nat → Int → BinOp → Option Bool
  | 7, .ofNat 0, .gtr => some true
  | _, _, _ => none
def hookN (P : Program) : OpF := opH (bigHook P true) (opH (symHook P lnN cmN) app0Hook)
def hookZ (P : Program) : OpF := opH (bigHook P true) app0Hook
/-- Is it the number with this sign? -/
def isNegA (s : Bool) (q : RE) : Option (AV × Dl × Nat) → Bool
  | some (.v (.agg [.lit (.bool b), .atom (.num x), .atom (.den y)]), _, _) => (b == s) && (reB x q && reB y q)
  | _ => false
theorem isNegA_ok {s : Bool} {q : RE} {r : Option (AV × Dl × Nat)} (h : isNegA s q r = true) : ∃ dl n, r = some (.v (.agg [.lit (.bool s), .atom (.num q), .atom (.den q)]), dl, n) := by
  unfold isNegA at h
  split at h
  · simp only [Bool.and_eq_true, beq_iff_eq] at h
    obtain ⟨rfl, h1, h2⟩ := h
    obtain rfl := reB_ok h1
    obtain rfl := reB_ok h2
    exact ⟨_, _, rfl⟩
  · cases h

set_option maxRecDepth 1000000 in
theorem neg2_told : ∃ t : Tr Func, TabOK Tryz.prog t ∧ (isNegA false (.c 0 1) (evalCall ⟨Tryz.prog, true, t.get, noOrc, hookZ Tryz.prog⟩ 1000 15 [.agg [.lit (.bool false), .atom (.num (.c 0 1)), .atom (.den (.c 0 1))]] .e 0) &&
    (isNegA false (.v 0) (evalCall ⟨Tryz.prog, true, t.get, noOrc, hookN Tryz.prog⟩ 1000 15 [.agg [.lit (.bool true), .atom (.num (.v 0)), .atom (.den (.v 0))]] .e 0) &&
     isNegA true (.v 0) (evalCall ⟨Tryz.prog, true, t.get, noOrc, hookN Tryz.prog⟩ 1000 15 [.agg [.lit (.bool false), .atom (.num (.v 0)), .atom (.den (.v 0))]] .e 0))) = true :=
  ⟨Tr.e.put 15 (some Tryz.f15), (TabOK.put (TabOK.e _) ⟨Tryz.func15, by decide +kernel, by decide +kernel⟩), by decide +kernel⟩

theorem neg2_any {w : World} {a : Value} {p : Rat} (ha : RV w a p) (bp : nr p ≤ 5000) :
    Calls Tryz.prog 15 #[a] w fun e w' => ∃ v, e = .returned v ∧ RV w' v (-p) ∧ Fwd w w' := by
  obtain ⟨t, ht, hr⟩ := neg2_told
  simp only [Bool.and_eq_true] at hr
  obtain ⟨hr0, hr1, hr2⟩ := hr
  obtain ⟨vN, vD, rfl, h1, h2⟩ := ha
  have hsz : Sized (fun _ => p) := ⟨fun _ => bp⟩
  have hne : p ≠ 0 → 0 < nl p.num.natAbs := fun h => by
    have : p.num.natAbs ≠ 0 := fun e => h ((natAbs_zero_iff p).1 e)
    rw [nl_pos this]; omega
  have hh : ∀ (hp : p ≠ 0), OpOK (DomQ true (fun _ => p) (symI fun _ => (nl p.num.natAbs : Int)) (fun _ => none)) w.heap.size Tryz.prog (hookN Tryz.prog) := fun hp =>
    opH_ok (bigHook_ok _) (opH_ok (symHook_ok _ (by
      intro d j w u hd hu
      unfold lnN at hd
      split at hd
      · obtain rfl := Option.some.inj hd
        have hu' : Num w u p.num.natAbs := hu.2
        rcases hu'.2 with ⟨rfl, hl⟩ | ⟨b, off, cap, rfl, _⟩
        · exact ⟨none, 0, 0, rfl, by show Value.int .i64 ((lim p.num.natAbs).length : Int) = _; rw [hl]; rfl, fun _ => trivial⟩
        · exact ⟨_, _, cap, rfl, rfl, fun _ => trivial⟩
      · cases hd) (by
      intro j m b r hm
      unfold cmN at hm
      split at hm
      · obtain rfl := Option.some.inj hm
        refine ⟨_, rfl, fun t => intBin_ok ?_ t⟩
        have := hne hp
        simp only [intBin, sameKind, cond_true, ltI_eq]
        rw [decide_eq_true (by show Int.ofNat 0 < _; simp; omega)]
      · cases hm)) (app0Hook_ok hsz))
  have key : ∀ (hook : OpF) (s b : Bool) (q : RE) (σ : SymD), OpLe hook → OpOK (DomQ true (fun _ => p) σ (fun _ => none)) w.heap.size Tryz.prog hook → vq (fun _ => p) q = p → negQ p = s → negQ (-p) = b →
      isNegA b q (evalCall ⟨Tryz.prog, true, t.get, noOrc, hook⟩ 1000 15 [.agg [.lit (.bool s), .atom (.num q), .atom (.den q)]] .e 0) = true →
      Calls Tryz.prog 15 #[.agg #[.bool (negQ p), vN, vD]] w fun e w' => ∃ v, e = .returned v ∧ RV w' v (-p) ∧ Fwd w w' := by
    intro hook s b q σ hle hho hq hs hb hread
    obtain ⟨dl, n, he⟩ := isNegA_ok hread
    refine (told_call (M := DomQ true (fun _ => p) σ (fun _ => none)) (cx := ⟨Tryz.prog, true, t.get, noOrc, hook⟩) (xs := [.agg [.lit (.bool s), .atom (.num q), .atom (.den q)]]) (vs := [.agg #[.bool (negQ p), vN, vD]]) Tryz.checked.mixed
      (cxN_ok ht hle hho) (fun hg => by cases hg) ⟨⟨[.bool (negQ p), vN, vD], rfl, ⟨by rw [hs], rfl⟩, ⟨rfl, by rw [hq]; exact h1⟩, ⟨rfl, by rw [hq]; exact h2⟩, trivial⟩, trivial⟩ he).mono ?_
    rintro e w' ⟨v, ρ', rfl, hv, hbel⟩
    obtain ⟨us, rfl, hu⟩ := hv
    match us, hu with
    | [c1, c2, c3], ⟨r1, r2, r3, _⟩ =>
      obtain ⟨rfl, _⟩ : c1 = _ ∧ _ := r1
      have n2 : Num w' c2 (vq (fun _ => p) q).num.natAbs := r2.2
      have n3 : Num w' c3 (vq (fun _ => p) q).den := r3.2
      rw [hq] at n2 n3
      refine ⟨_, rfl, ⟨c2, c3, by rw [hb], ?_, ?_⟩, hbel⟩
      · rw [Rat.neg_num, Int.natAbs_neg]; exact n2
      · rw [Rat.neg_den]; exact n3
  by_cases hp : p = 0
  · subst hp
    exact key (hookZ Tryz.prog) false false (.c 0 1) (symI fun _ => 0) (opH_le (bigHook_le _ _) app0Hook_le) (opH_ok (bigHook_ok _) (app0Hook_ok hsz)) (Rat.zero_mkRat _) negQ_zero (by rw [Rat.neg_zero]; exact negQ_zero) hr0
  · cases hs : negQ p with
    | true =>
      have := key (hookN Tryz.prog) true false (.v 0) (symI fun _ => (nl p.num.natAbs : Int)) (opH_le (bigHook_le _ _) (opH_le (symHook_le _ _ _) app0Hook_le)) (hh hp) rfl hs (by rw [Q_neg_neg hp, hs]; rfl) hr1
      rwa [hs] at this
    | false =>
      have := key (hookN Tryz.prog) false true (.v 0) (symI fun _ => (nl p.num.natAbs : Int)) (opH_le (bigHook_le _ _) (opH_le (symHook_le _ _ _) app0Hook_le)) (hh hp) rfl hs (by rw [Q_neg_neg hp, hs]; rfl) hr2
      rwa [hs] at this
end Go.Proofs.YtnknbeinnfhomaaGreatDoor

namespace Go.Proofs.YtnknbeinnfhomaaGreatDoor
open Go.RowKit
set_option linter.unusedVariables false
set_option linter.unusedSimpArgs false

set_option maxHeartbeats 1000000 in
/-- within: what is left. -/
theorem within_l2 (w : World) (a : Int) (n : Nat) (hn : 0 < n) (hn2 : n ≤ 1000000000) (ha1 : -9223372036854775808 ≤ a) (ha2 : a ≤ 9223372036854775807) :
    Calls Tryz.prog 29 #[.int .i64 a, .int .i64 n] w fun e w' => e = .returned (.int .i64 (a % n)) ∧ w = w' := by
  by_cases h0 : 0 ≤ a
  · have h1 : a % n < n := Int.emod_lt_of_pos _ (by omega)
    have h2 : 0 ≤ a % n := Int.emod_nonneg _ (by omega)
    have hnz : (n : Int) ≠ 0 := by omega
    go_enter Tryz.func29, Tryz.ntmps29
    go_wp2
    go_ret
    exact ⟨rfl, rfl⟩
  · have hb : ∃ b : Int, a = -b ∧ 0 < b := ⟨-a, by omega, by omega⟩
    obtain ⟨b, hb, hb0⟩ := hb
    have h3 : a.tmod n = -(b % n) := by rw [hb, Int.neg_tmod, Int.tmod_eq_emod_of_nonneg (by omega)]
    have h1 : b % n < n := Int.emod_lt_of_pos _ (by omega)
    have h2 : 0 ≤ b % n := Int.emod_nonneg _ (by omega)
    have hnz : (n : Int) ≠ 0 := by omega
    have h5 : a % n = if b % n = 0 then 0 else n - b % n := by
      rw [hb]
      split
      · rename_i h; exact Int.emod_eq_zero_of_dvd ((Int.dvd_neg).2 (Int.dvd_of_emod_eq_zero h))
      · rename_i h
        rw [Int.neg_emod, if_neg (fun hd => h (Int.emod_eq_zero_of_dvd hd))]
        simp
    obtain ⟨t, ht⟩ : ∃ t, t = b % n := ⟨_, rfl⟩
    obtain ⟨r, hr⟩ : ∃ r, r = a % n := ⟨_, rfl⟩
    rw [← hr, ← ht] at h5
    rw [← hr]
    rw [← ht] at h1 h2 h3
    clear ht hb hr
    by_cases ht0 : t = 0
    · have h4 : ¬ (-t < 0) := by omega
      rw [if_pos ht0] at h5
      subst h5
      have HT := hid ht0
      subst ht0
      simp only [Int.neg_zero] at h3
      go_enter Tryz.func29, Tryz.ntmps29
      go_wp2
      go_ret
      exact ⟨rfl, rfl⟩
    · have h4 : -t < 0 := by omega
      rw [if_neg ht0] at h5
      subst h5
      go_enter Tryz.func29, Tryz.ntmps29
      go_wp2
      go_ret
      refine ⟨?_, rfl⟩
      have e : -t + (n : Int) = n - t := by omega
      simp only [e]
      rfl

end Go.Proofs.YtnknbeinnfhomaaGreatDoor

namespace Go.Proofs.YtnknbeinnfhomaaGreatDoor
open Go.RowKit
set_option linter.unusedVariables false
set_option linter.unusedSimpArgs false

/-- The small number of a raw one. -/
def smallQ (n : Int) : Rat := mkRat (n % 41 - 20) (1 + (n.tdiv 41 % 5).toNat)

theorem ofQ_mk (n d : Int) (hd : 0 < d) : mkQ (!(decide (n < 0) == decide (d < 0))) n.natAbs d.natAbs = mkRat n d.toNat := by
  unfold mkQ sgQ
  have h2 : ¬ d < 0 := by omega
  rw [show d.natAbs = d.toNat by omega]
  congr 1
  by_cases h1 : n < 0 <;> simp [h1, h2] <;> omega

set_option maxHeartbeats 4000000 in
set_option maxRecDepth 20000 in
theorem smallR_any (w : World) (n : Int) (n1 : -9223372036854775808 ≤ n) (n2 : n ≤ 9223372036854775807) :
    Calls Tryz.prog 6 #[.int .i64 n] w fun e w' => ∃ v, e = .returned v ∧ RV w' v (smallQ n) ∧ Fwd w w' := by
  have kR : BlkV (w.alloc (.cells #[.bool false, .slice none 0 0, .slice none 0 0] 24)) w.heap.size 24 [.bool false, .slice none 0 0, .slice none 0 0] := BlkV.made' w w.heap.size (by simp) 24 [.bool false, .slice none 0 0, .slice none 0 0]
  have hF := hid ((Fwd.refl w).alloc (.cells #[.bool false, .slice none 0 0, .slice none 0 0] 24))
  have a1 : 0 ≤ n % 41 := Int.emod_nonneg _ (by omega)
  have a2 : n % 41 < 41 := Int.emod_lt_of_pos _ (by omega)
  have b1 : 0 ≤ n.tdiv 41 % 5 := Int.emod_nonneg _ (by omega)
  have b2 : n.tdiv 41 % 5 < 5 := Int.emod_lt_of_pos _ (by omega)
  have q1 : -9223372036854775808 ≤ n.tdiv 41 := by
    rcases Int.le_total 0 n with h | h
    · have := Int.tdiv_nonneg h (show (0 : Int) ≤ 41 by omega); omega
    · have : n.tdiv 41 = -((-n) / 41) := by rw [← Int.neg_neg n, Int.neg_tdiv, Int.tdiv_eq_ediv_of_nonneg (by omega)]; simp
      omega
  have q2 : n.tdiv 41 ≤ 9223372036854775807 := by
    rcases Int.le_total 0 n with h | h
    · rw [Int.tdiv_eq_ediv_of_nonneg h]; omega
    · have : n.tdiv 41 = -((-n) / 41) := by rw [← Int.neg_neg n, Int.neg_tdiv, Int.tdiv_eq_ediv_of_nonneg (by omega)]; simp
      omega
  obtain ⟨r, hr⟩ : ∃ r, r = n % 41 := ⟨_, rfl⟩
  obtain ⟨d, hd⟩ : ∃ d, d = n.tdiv 41 % 5 := ⟨_, rfl⟩
  have HS := hid (show smallQ n = mkRat (r - 20) (1 + d.toNat) by rw [hr, hd]; rfl)
  have HR := hid hr
  have HD := hid hd
  rw [← hr] at a1 a2
  rw [← hd] at b1 b2
  clear hr hd
  have kR := hid kR
  go_enter Tryz.func6, Tryz.ntmps6
  go_wp2_with fail
  refine (within_l2 _ n 41 (by omega) (by omega) n1 n2).mono ?_
  rintro e w1 ⟨rfl, rfl⟩
  rw [show ((41 : Nat) : Int) = 41 from rfl, ← HR.out]
  go_wp2_with fail
  refine (within_l2 _ (n.tdiv 41) 5 (by omega) (by omega) q1 q2).mono ?_
  rintro e w1 ⟨rfl, rfl⟩
  rw [show ((5 : Nat) : Int) = 5 from rfl, ← HD.out]
  go_wp2_with fail
  refine (of2_any _ (r - 20) (1 + d) (by omega) (by omega) (by omega) (by omega) (by omega)).mono ?_
  rintro e w1 ⟨v, rfl, hv, hf1⟩
  rw [ofQ_mk (r - 20) (1 + d) (by omega), show (1 + d).toNat = 1 + d.toNat by omega, ← HS.out] at hv
  have HV := hid hv
  obtain ⟨vN, vD, rfl, h1, h2⟩ := hv
  obtain ⟨xo, xc, rfl, _, _, _⟩ := h1.parts
  obtain ⟨yo, yc, rfl, _, _, _⟩ := h2.parts
  clear h1 h2
  have kR1 := kR.out.fwd hf1
  have hF1 := hid (hF.out.trans hf1)
  clear hf1
  generalize negQ (smallQ n) = s at *
  generalize nl (smallQ n).num.natAbs = ln at *
  generalize nl (smallQ n).den = ld at *
  have kR2 := kR1.alloc (.cells #[.bool s, .slice xo ln xc, .slice yo ld yc] 24)
  have hF2 := hid (hF1.out.alloc (.cells #[.bool s, .slice xo ln xc, .slice yo ld yc] 24))
  have kT := BlkV.made w1 24 [.bool s, .slice xo ln xc, .slice yo ld yc]
  have HV2 := HV.out.fwd ((Fwd.refl w1).alloc (.cells #[.bool s, .slice xo ln xc, .slice yo ld yc] 24))
  clear HV
  go_upto_region 2 with fail
  generalize (w1.alloc (.cells #[.bool s, .slice xo ln xc, .slice yo ld yc] 24)) = w2 at kT kR2 hF2 HV2 ⊢
  have rc0 := BlkV.cell kR2 0 rfl
  have rc1 := BlkV.cell kR2 1 rfl
  have rc2 := BlkV.cell kR2 2 rfl
  have rz0 := BlkV.frozen kR2 0
  have rz1 := BlkV.frozen kR2 1
  have rz2 := BlkV.frozen kR2 2
  have tc0 := BlkV.cell kT 0 rfl
  have tc1 := BlkV.cell kT 1 rfl
  have tc2 := BlkV.cell kT 2 rfl
  have HV := hid HV2
  have kR2 := hid kR2
  clear kT HV2
  go_wp2_with fail
  have hz := BlkV.set (BlkV.set (BlkV.set kR2.out 0 (.bool s)) 1 (.slice xo ln xc)) 2 (.slice yo ld yc)
  have hon := only_set3 w.heap.size w2 (.bool s) (.slice xo ln xc) (.slice yo ld yc)
  generalize (((w2.setCell ⟨w.heap.size, 0, none⟩ (.bool s)).setCell ⟨w.heap.size, 1, none⟩ (.slice xo ln xc)).setCell ⟨w.heap.size, 2, none⟩ (.slice yo ld yc)) = wz at hz hon ⊢
  have e0 := BlkV.cell hz 0 rfl
  have e1 := BlkV.cell hz 1 rfl
  have e2 := BlkV.cell hz 2 rfl
  refine bodyPost_ret (by simp [results, Tryz.results6, go_sem, e0, e1, e2]; try rfl) rfl ?_
  exact ⟨_, rfl, RV.keepV HV.out kR2.out (by intro c hc x; simp at hc; rcases hc with rfl | rfl | rfl <;> simp) hon, hF2.out.wrote hon (Nat.le_refl _)⟩
end Go.Proofs.YtnknbeinnfhomaaGreatDoor
