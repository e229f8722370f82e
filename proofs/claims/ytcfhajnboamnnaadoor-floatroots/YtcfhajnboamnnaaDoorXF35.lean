/- The second telling of floats: Of, by the reader upon letters. -/
import Derived.Test.YtcfhajnboamnnaaDoorYXF34
import Derived.Test.YtcfhajnboamnnaaDoorYXP1
import Derived.Test.YtcfhajnboamnnaaDoorYXEVW
import Derived.Test.YtcfhajnboamnnaaDoorKC
namespace Go.Proofs.YtcfhajnboamnnaaDoor
open Go.RowKit Go.Ev
set_option linter.unusedVariables false
set_option linter.unusedSimpArgs false

theorem wrU1 (x : Nat) (h : x < 9223372036854775808) : IntKind.u64.wrap ((x : Int) + 1) = ((x + 1 : Nat) : Int) := by
  rw [wrU (by omega) (by omega)]; rfl
theorem cmpW_lt (m n : Nat) : decide (cmpW m n < 0) = decide (m < n) := by
  unfold cmpW
  by_cases h : m < n
  · simp [h]
  · by_cases g : n < m <;> simp [h, g]
theorem cmpW_half (r d : Nat) : cmpW ((r * 2 : Nat) : Int) d = half r d := by
  unfold cmpW half
  repeat' split
  all_goals omega

def of3zD : List (FuncId × Ans) :=
  [(61, ansT [([avQ (.v 0)], .v (.one (.lit (.bool true))))])]
def of3zL : BT := []
def of3zM : BT := []
def of3zN : At → Option Nat
  | _ => none

set_option maxRecDepth 1000000 in
theorem of3zTold : ∃ t : Tr Func, TabOK Tryd.prog t ∧ (isAV (.tup [.one (.lit (.int .u64 0)), .one (.lit (.int .i64 (0)))]) (evalCall ⟨Tryd.prog, true, t.get, orcD (of3zD ), (opH (bigHook Tryd.prog true) (opH (symHook Tryd.prog of3zN (fun _ _ _ => none)) (tabHook (of3zL ) of3zM)))⟩ 1000 24 [avQ (.v 0), .one (.atom (.sym 0))] .e 0) = true) :=
  ⟨((Tr.e).put 24 (some Tryd.f24)).put 61 (some Tryd.f61),
   (TabOK.put (TabOK.put (TabOK.e _) ⟨Tryd.func24, by decide +kernel, by decide +kernel⟩) ⟨Tryd.func61, by decide +kernel, by decide +kernel⟩),
   by decide +kernel⟩

set_option maxHeartbeats 4000000 in
set_option maxRecDepth 100000 in
theorem of3z_tab {w : World} {v : Value} {q : Rat} (m : Int) (hv : RV w v q) (h0 : q = 0) :
    Calls Tryd.prog 24 #[v, .int .i64 m] w fun e w' => e = .returned (.tuple #[.int .u64 0, .int .i64 0]) ∧ Below w.heap.size w w' := by
  have cNo : ∀ (w : World) (u : Value), RV w u q → Calls Tryd.prog 61 #[u] w fun e w' => e = .returned (.bool true) ∧ Fwd w w' := fun w u h => by
    have := nought2_num h (by subst h0; decide +kernel); rwa [decide_eq_true h0] at this
  obtain ⟨t, ht, hr⟩ := of3zTold
  obtain ⟨dl, n', he⟩ := isAV_ok (hr)
  let ν : Nat → Rat := nuL [q] []
  let σ : SymD := symL [.i m]
  have hcx : CxOK (DomQ true ν σ (fun _ => none)) w.heap.size ⟨Tryd.prog, true, t.get, orcD (of3zD ), (opH (bigHook Tryd.prog true) (opH (symHook Tryd.prog of3zN (fun _ _ _ => none)) (tabHook (of3zL ) of3zM)))⟩ := cxS_ok (M := (DomQ true ν σ (fun _ => none))) ht ⟨[
      orcT 61 [
        { args := [avQ (.v 0)], ans := .v (.one (.lit (.bool true))), ok := by
            intro B ρ w S vs hS hr
            match vs, hr with
            | [u0], ⟨z0, _⟩ =>
              have k0 := avQ_rv z0
              refine (cNo _ _ k0).mono ?_
              rintro e w' ⟨rfl, hf⟩
              exact ⟨_, rfl, ⟨rfl, rfl⟩, hf⟩ }]], rfl⟩
    (opH_le (bigHook_le _ _) (opH_le (symHook_le _ _ _) (tabHook_le _ _)))
    (opH_ok (bigHook_ok _) (opH_ok (symHook_ok _ (fun h => by cases h) (fun h => by cases h)) (tabHook_ok _ all_nil all_nil)))
  refine (told_call (M := (DomQ true ν σ (fun _ => none))) (cx := ⟨Tryd.prog, true, t.get, orcD (of3zD ), (opH (bigHook Tryd.prog true) (opH (symHook Tryd.prog of3zN (fun _ _ _ => none)) (tabHook (of3zL ) of3zM)))⟩) (xs := [avQ (.v 0), .one (.atom (.sym 0))]) (vs := [v, .int .i64 m]) Tryd.checked.mixed hcx (fun hg => by cases hg) ⟨avQ_rel hv, ⟨rfl, fun _ => trivial⟩, trivial⟩ he).mono ?_
  rintro e w' ⟨v, ρ', rfl, hv, hbel⟩
  obtain ⟨us, rfl, hu⟩ := hv
  match us, hu with
  | [c0, c1], ⟨r0, r1, _⟩ =>
    obtain ⟨rfl, _⟩ : c0 = _ ∧ _ := r0
    obtain ⟨rfl, _⟩ : c1 = _ ∧ _ := r1
    exact ⟨rfl, hbel⟩

def of3tD (r0 : Bool) (sub : Bool) (upb : Bool) : List (FuncId × Ans) :=
  [(61, ansT [([avQ (.v 0)], .v (.one (.lit (.bool false))))]),
   (62, ansT [([.one (.atom (.num (.v 0)))], .v (.one (.atom (.sym 1)))), ([.one (.atom (.den (.v 0)))], .v (.one (.atom (.sym 2))))]),
   (55, ansT [([.one (.atom (.num (.v 0))), .one (.atom (.den (.v 0))), .one (.atom (.sym 4))], .tup [.one (.atom (.num (.v 10))), .one (.atom (.num (.v 11)))]), ([.one (.atom (.num (.v 0))), .one (.atom (.den (.v 0))), .one (.atom (.sym 8))], .tup [.one (.atom (.num (.v 12))), .one (.atom (.num (.v 13)))])]),
   (40, ansT [([.one (.atom (.num (.v 10))), .one (.atom (.num (.v 11)))], .v (.one (.atom (.sym 16)))), ([.one (.atom (.num (.v 16))), .one (.atom (.num (.v 13)))], .v (.one (.atom (.sym 10))))]),
   (43, ansT [([.one (.atom (.num (.v 12))), .one (.atom (.num (.v 13)))], .tup [.one (.atom (.num (.v 14))), .one (.atom (.num (.v 15))), .one (.lit (.int .i64 (0)))])]),
   (63, ansT [([.one (.atom (.num (.v 14)))], .tup [.one (.atom (.sym 9)), .one (.lit (.bool true))])]),
   (10, ansT [([.one (.atom (.num (.v 15))), .one (.lit (.int .i64 (1)))], .v (.one (.atom (.num (.v 16)))))]),
   (64, ansT [([.one (.atom (.neg (.v 0))), .one (.atom (.sym 10)), .one (.atom (.sym 17)), .one (.atom (.sym 0))], .v (.one (.lit (.bool upb))))]),
   (65, ansT [([.one (.atom (.neg (.v 0))), .one (.atom (.sym 9)), .one (.atom (.sym 7)), .one (.atom (.sym 0)), .one (.lit (.int .i64 (0)))], .tup [.one (.atom (.sym 14)), .one (.atom (.sym 15))]), ([.one (.atom (.neg (.v 0))), .one (.atom (.sym 9)), .one (.atom (.sym 7)), .one (.atom (.sym 0)), .one (.lit (.int .i64 (1)))], .tup [.one (.atom (.sym 18)), .one (.atom (.sym 19))]), ([.one (.atom (.neg (.v 0))), .one (.atom (.sym 9)), .one (.atom (.sym 7)), .one (.atom (.sym 0)), .one (.lit (.int .i64 (3)))], .tup [.one (.atom (.sym 20)), .one (.atom (.sym 21))]), ([.one (.atom (.neg (.v 0))), .one (.atom (.sym 12)), .one (.atom (.sym 7)), .one (.atom (.sym 0)), .one (.lit (.int .i64 (1)))], .tup [.one (.atom (.sym 22)), .one (.atom (.sym 23))]), ([.one (.atom (.neg (.v 0))), .one (.atom (.sym 12)), .one (.atom (.sym 7)), .one (.atom (.sym 0)), .one (.lit (.int .i64 (3)))], .tup [.one (.atom (.sym 24)), .one (.atom (.sym 25))])])]
def of3tL (r0 : Bool) (sub : Bool) (upb : Bool) : BT := [(.sub, .atom (.sym 1), .atom (.sym 2), .atom (.sym 3)), (.sub, .lit (.int .i64 (0)), .atom (.sym 3), .atom (.sym 4)), (.lss, .atom (.sym 16), .lit (.int .i64 (0)), .lit (.bool true)), (.sub, .atom (.sym 3), .lit (.int .i64 (1)), .atom (.sym 5)), (.sub, .atom (.sym 5), .lit (.int .i64 (52)), .atom (.sym 6)), (.sub, .lit (.int .i64 (0)), .atom (.sym 7), .atom (.sym 8)), (.gtr, .atom (.sym 13), .lit (.int .i64 (0)), .lit (.bool (!r0))), (.lss, .atom (.sym 5), .lit (.int .i64 (-1022)), .lit (.bool sub)), (.rem, .atom (.sym 9), .lit (.int .u64 2), .atom (.sym 11)), (.eql, .atom (.sym 11), .lit (.int .u64 1), .atom (.sym 17)), (.add, .atom (.sym 9), .lit (.int .u64 1), .atom (.sym 12))]
def of3tM : BT := [(.add, .atom (.sym 6), .lit (.int .i64 (-1074)), .atom (.sym 7))]
def of3tN : At → Option Nat
  | .num (.v 15) => some 13
  | _ => none

set_option maxRecDepth 1000000 in
theorem of3tTold : ∃ t : Tr Func, TabOK Tryd.prog t ∧ (∀ (r0 : Bool) (sub : Bool) (upb : Bool), isAV (.tup [.one (.atom (.sym (bif r0 then 14 else bif upb then (bif sub then 24 else 22) else (bif sub then 20 else 18)))), .one (.atom (.sym (bif r0 then 15 else bif upb then (bif sub then 25 else 23) else (bif sub then 21 else 19))))]) (evalCall ⟨Tryd.prog, true, t.get, orcD (of3tD r0 sub upb), (opH (bigHook Tryd.prog true) (opH (symHook Tryd.prog of3tN (fun _ _ _ => none)) (tabHook (of3tL r0 sub upb) of3tM)))⟩ 1000 24 [avQ (.v 0), .one (.atom (.sym 0))] .e 0) = true) :=
  ⟨((((((((((Tr.e).put 24 (some Tryd.f24)).put 61 (some Tryd.f61)).put 62 (some Tryd.f62)).put 55 (some Tryd.f55)).put 40 (some Tryd.f40)).put 43 (some Tryd.f43)).put 63 (some Tryd.f63)).put 10 (some Tryd.f10)).put 64 (some Tryd.f64)).put 65 (some Tryd.f65),
   (TabOK.put (TabOK.put (TabOK.put (TabOK.put (TabOK.put (TabOK.put (TabOK.put (TabOK.put (TabOK.put (TabOK.put (TabOK.e _) ⟨Tryd.func24, by decide +kernel, by decide +kernel⟩) ⟨Tryd.func61, by decide +kernel, by decide +kernel⟩) ⟨Tryd.func62, by decide +kernel, by decide +kernel⟩) ⟨Tryd.func55, by decide +kernel, by decide +kernel⟩) ⟨Tryd.func40, by decide +kernel, by decide +kernel⟩) ⟨Tryd.func43, by decide +kernel, by decide +kernel⟩) ⟨Tryd.func63, by decide +kernel, by decide +kernel⟩) ⟨Tryd.func10, by decide +kernel, by decide +kernel⟩) ⟨Tryd.func64, by decide +kernel, by decide +kernel⟩) ⟨Tryd.func65, by decide +kernel, by decide +kernel⟩),
   by decide +kernel⟩

set_option maxHeartbeats 4000000 in
set_option maxRecDepth 100000 in
theorem of3t_tab {w : World} {v : Value} {q : Rat} (m : Int) (hv : RV w v q) (hq : nr q ≤ 150) (h0 : q ≠ 0) {r0 sub upb : Bool}
    (hlt : decide (q.num.natAbs * 2 ^ (-((blen q.num.natAbs : Int) - (blen q.den : Int))).toNat < q.den * 2 ^ ((blen q.num.natAbs : Int) - (blen q.den : Int)).toNat) = true)
    (hr0 : decide (numR q.num.natAbs q.den % denR q.num.natAbs q.den = 0) = r0) (hsub : decide (pex q.num.natAbs q.den < -1022) = sub)
    (hup : upR m (negQ q) (half (numR q.num.natAbs q.den % denR q.num.natAbs q.den) (denR q.num.natAbs q.den)) (decide (numR q.num.natAbs q.den / denR q.num.natAbs q.den % 2 = 1)) = upb) :
    Calls Tryd.prog 24 #[v, .int .i64 m] w fun e w' => e = .returned (.tuple #[.int .u64 ((ofR m (negQ q) q.num.natAbs q.den).1 : Nat), .int .i64 ((ofR m (negQ q) q.num.natAbs q.den).2 : Nat)]) ∧ Below w.heap.size w w' := by
  have b1 := nr_num q
  have b2 := nr_den q
  have hN0 : q.num.natAbs ≠ 0 := fun h => h0 ((natAbs_zero_iff q).1 h)
  have hD0 := q.den_nz
  have hof : ofR m (negQ q) q.num.natAbs q.den = packR m (negQ q) (numR q.num.natAbs q.den / denR q.num.natAbs q.den + (if r0 = true then 0 else if upb = true then 1 else 0)) (ulpR q.num.natAbs q.den) (if r0 = true then 0 else if sub = true then 3 else 1) := by
    unfold ofR upN flR
    rw [if_neg hN0, hup]
    subst hr0 hsub
    simp only [decide_eq_true_eq]
  rw [hof]
  clear hof
  obtain ⟨N, hN⟩ : ∃ N, N = q.num.natAbs := ⟨_, rfl⟩
  obtain ⟨D, hD⟩ : ∃ D, D = q.den := ⟨_, rfl⟩
  have bN : nl N ≤ 150 := by rw [hN]; omega
  have bD : nl D ≤ 150 := by rw [hD]; omega
  rw [← hN, ← hD] at hlt hr0 hup ⊢
  rw [← hN] at hN0
  rw [← hD] at hD0
  rw [← hN, ← hD] at hsub
  have lN := blen_nl N
  have lD := blen_nl D
  obtain ⟨p0, hp0⟩ : ∃ p0, p0 = (blen N : Int) - (blen D : Int) := ⟨_, rfl⟩
  rw [← hp0] at hlt
  have hpex : pex N D = p0 - (if true = true then 1 else 0) := by
    unfold pex; rw [← hp0]; have := hlt; by_cases c : N * 2 ^ (-p0).toNat < D * 2 ^ p0.toNat <;> simp [c] at this ⊢
  have hpl : p0 - 1 ≤ pex N D ∧ pex N D ≤ p0 := by rw [hpex]; split <;> omega
  have hu1 : -1074 ≤ ulpR N D ∧ ulpR N D ≤ 5000 := by unfold ulpR; omega
  have hu2 : -6000 ≤ ulpR N D := by omega
  obtain ⟨n1, hn1⟩ : ∃ n1, n1 = N * 2 ^ (-p0).toNat := ⟨_, rfl⟩
  obtain ⟨d1, hd1⟩ : ∃ d1, d1 = D * 2 ^ (-(-p0)).toNat := ⟨_, rfl⟩
  have hn1' : ∀ k : Int, k = -p0 → N * 2 ^ k.toNat = n1 := fun k hk => by rw [hn1, hk]
  have hd1' : ∀ k : Int, k = -p0 → D * 2 ^ (-k).toNat = d1 := fun k hk => by rw [hd1, hk]
  have bn1 : nl n1 ≤ 1000 := by have := nl_shl N (-p0).toNat; rw [← hn1] at this; omega
  have bd1 : nl d1 ≤ 1000 := by have := nl_shl D (-(-p0)).toNat; rw [← hd1] at this; omega
  have bnR : nl (numR N D) ≤ 1000 := by have := nl_shl N (-(ulpR N D)).toNat; unfold numR; omega
  have bdR : nl (denR N D) ≤ 1000 := by have := nl_shl D (ulpR N D).toNat; unfold denR; omega
  have hdR := denR_pos (N := N) hD0
  have hqb := (numR_lt hN0 hD0).1
  have bq : nl (numR N D / denR N D) ≤ 2 := nl_two' hqb
  have br : nl (numR N D % denR N D) ≤ 1000 := by have := nl_mono (Nat.le_of_lt (Nat.mod_lt (numR N D) hdR)); omega
  have b2r : nl ((numR N D % denR N D) * 2) ≤ 1100 := by
    have := nl_shl (numR N D % denR N D) 1
    rw [Nat.pow_one] at this; omega
  have hlen : decide (0 < (nl (numR N D % denR N D) : Int)) = !r0 := by
    subst hr0
    by_cases c : numR N D % denR N D = 0
    · rw [c, decide_eq_true rfl]; rfl
    · rw [decide_eq_false c, decide_eq_true (by rw [nl_pos c]; omega)]; rfl
  have hcl : decide (cmpW n1 d1 < 0) = true := by
    rw [← hlt, hn1, hd1, Int.neg_neg]; exact cmpW_lt _ _
  have hfw : ∀ {w w' : World}, w' = w → Fwd w w' := fun h => h ▸ Fwd.refl _
  have cNo : ∀ (w : World) (u : Value), RV w u q → Calls Tryd.prog 61 #[u] w fun e w' => e = .returned (.bool false) ∧ Fwd w w' := fun w u h => by
    have := nought2_num h (by omega); rwa [decide_eq_false h0] at this
  have cB1 : ∀ (w : World) (u : Value), Num w u q.num.natAbs → Calls Tryd.prog 62 #[u] w fun e w' => e = .returned (.int .i64 (blen N : Int)) ∧ Fwd w w' := fun w u h =>
    (refBits_any h (by omega)).mono fun e w' g => ⟨by rw [hN]; exact g.1, hfw g.2.symm⟩
  have cB2 : ∀ (w : World) (u : Value), Num w u q.den → Calls Tryd.prog 62 #[u] w fun e w' => e = .returned (.int .i64 (blen D : Int)) ∧ Fwd w w' := fun w u h =>
    (refBits_any h (by omega)).mono fun e w' g => ⟨by rw [hD]; exact g.1, hfw g.2.symm⟩
  have cS1 : ∀ (w : World) (u u' : Value), Num w u q.num.natAbs → Num w u' q.den → Calls Tryd.prog 55 #[u, u', .int .i64 (-p0)] w fun e w' => ∃ a b, e = .returned (.tuple #[a, b]) ∧ Num w' a n1 ∧ Num w' b d1 ∧ Fwd w w' := fun w u u' h h' => by
    have := shift3_any (-p0) (by omega) (by omega) h h' (by omega) (by omega)
    rwa [← hN, ← hD, ← hn1, ← hd1] at this
  have cS2 : ∀ (w : World) (u u' : Value), Num w u q.num.natAbs → Num w u' q.den → Calls Tryd.prog 55 #[u, u', .int .i64 (-(ulpR N D))] w fun e w' => ∃ a b, e = .returned (.tuple #[a, b]) ∧ Num w' a (numR N D) ∧ Num w' b (denR N D) ∧ Fwd w w' := fun w u u' h h' => by
    have := shift3_any (-(ulpR N D)) (by omega) (by omega) h h' (by omega) (by omega)
    rw [← hN, ← hD, Int.neg_neg] at this
    exact this
  have cC1 : ∀ (w : World) (u u' : Value), Num w u n1 → Num w u' d1 → Calls Tryd.prog 40 #[u, u'] w fun e w' => e = .returned (.int .i64 (cmpW n1 d1)) ∧ Fwd w w' := fun w u u' h h' => refCmp_any h h' (by omega) (by omega)
  have cC2 : ∀ (w : World) (u u' : Value), Num w u ((numR N D % denR N D) * 2) → Num w u' (denR N D) → Calls Tryd.prog 40 #[u, u'] w fun e w' => e = .returned (.int .i64 (half (numR N D % denR N D) (denR N D))) ∧ Fwd w w' := fun w u u' h h' => by
    have := refCmp_any h h' (by omega) (by omega)
    rwa [cmpW_half] at this
  have cSm : ∀ (w : World) (u : Value), Num w u (numR N D / denR N D) → Calls Tryd.prog 63 #[u] w fun e w' => e = .returned (.tuple #[.int .u64 ((numR N D / denR N D : Nat) : Int), .bool true]) ∧ Fwd w w' := fun w u h => by
    have := refSmall_any h (by omega)
    unfold smallV at this
    rwa [if_pos (by omega)] at this
  have cSl : ∀ (w : World) (u : Value), Num w u (numR N D % denR N D) → Calls Tryd.prog 10 #[u, .int .i64 1] w fun e w' => ∃ x, e = .returned x ∧ Num w' x ((numR N D % denR N D) * 2) ∧ Fwd w w' := fun w u h => by
    have := refShl_any 1 h (by omega) (by omega)
    rwa [Nat.pow_one] at this
  have cUp : ∀ (w : World), Calls Tryd.prog 64 #[.bool (negQ q), .int .i64 (half (numR N D % denR N D) (denR N D)), .bool (decide (numR N D / denR N D % 2 = 1)), .int .i64 m] w fun e w' => e = .returned (.bool upb) ∧ Fwd w w' := fun w =>
    (up3_any (negQ q) _ _ m).mono fun e w' g => ⟨by rw [← hup]; exact g.1, hfw g.2⟩
  have cPk : ∀ (w : World) (x fl : Nat), x ≤ 9007199254740992 → Calls Tryd.prog 65 #[.bool (negQ q), .int .u64 x, .int .i64 (ulpR N D), .int .i64 m, .int .i64 fl] w fun e w' => e = .returned (.tuple #[.int .u64 ((packR m (negQ q) x (ulpR N D) fl).1 : Nat), .int .i64 ((packR m (negQ q) x (ulpR N D) fl).2 : Nat)]) ∧ Fwd w w' := fun w x fl h =>
    (pack3_any (negQ q) x (ulpR N D) m fl h hu1.1 (by omega)).mono fun e w' g => ⟨g.1, hfw g.2⟩
  have hv1 : IntKind.u64.wrap (((numR N D / denR N D : Nat) : Int) + 1) = ((numR N D / denR N D + 1 : Nat) : Int) := wrU1 _ (by omega)
  clear hlt hr0 hup
  simp only [if_true, Bool.false_eq_true, if_false, Int.sub_zero] at hpex
  obtain ⟨t, ht, hr⟩ := of3tTold
  obtain ⟨dl, n', he⟩ := isAV_ok (hr r0 sub upb)
  let ν : Nat → Rat := nuL [q] [n1, d1, numR N D, denR N D, numR N D / denR N D, numR N D % denR N D, (numR N D % denR N D) * 2]
  let σ : SymD := symL [.i m, .i (blen N : Int), .i (blen D : Int), .i p0, .i (-p0), .i (p0 - 1), .i (pex N D - 52), .i (ulpR N D), .i (-(ulpR N D)), .u (numR N D / denR N D), .i (half (numR N D % denR N D) (denR N D)), .u (numR N D / denR N D % 2), .u (numR N D / denR N D + 1), .i (nl (numR N D % denR N D) : Int), .u (packR m (negQ q) (numR N D / denR N D + 0) (ulpR N D) 0).1, .i ((packR m (negQ q) (numR N D / denR N D + 0) (ulpR N D) 0).2 : Int), .i (cmpW n1 d1), .b (decide (numR N D / denR N D % 2 = 1)), .u (packR m (negQ q) (numR N D / denR N D + 0) (ulpR N D) 1).1, .i ((packR m (negQ q) (numR N D / denR N D + 0) (ulpR N D) 1).2 : Int), .u (packR m (negQ q) (numR N D / denR N D + 0) (ulpR N D) 3).1, .i ((packR m (negQ q) (numR N D / denR N D + 0) (ulpR N D) 3).2 : Int), .u (packR m (negQ q) (numR N D / denR N D + 1) (ulpR N D) 1).1, .i ((packR m (negQ q) (numR N D / denR N D + 1) (ulpR N D) 1).2 : Int), .u (packR m (negQ q) (numR N D / denR N D + 1) (ulpR N D) 3).1, .i ((packR m (negQ q) (numR N D / denR N D + 1) (ulpR N D) 3).2 : Int)]
  have hcx : CxOK (DomQ true ν σ (fun _ => none)) w.heap.size ⟨Tryd.prog, true, t.get, orcD (of3tD r0 sub upb), (opH (bigHook Tryd.prog true) (opH (symHook Tryd.prog of3tN (fun _ _ _ => none)) (tabHook (of3tL r0 sub upb) of3tM)))⟩ := cxS_ok (M := (DomQ true ν σ (fun _ => none))) ht ⟨[
      orcT 61 [
        { args := [avQ (.v 0)], ans := .v (.one (.lit (.bool false))), ok := by
            intro B ρ w S vs hS hr
            match vs, hr with
            | [u0], ⟨z0, _⟩ =>
              have k0 := avQ_rv z0
              refine (cNo _ _ k0).mono ?_
              rintro e w' ⟨rfl, hf⟩
              exact ⟨_, rfl, ⟨rfl, rfl⟩, hf⟩ }],
      orcT 62 [
        { args := [.one (.atom (.num (.v 0)))], ans := .v (.one (.atom (.sym 1))), ok := by
            intro B ρ w S vs hS hr
            match vs, hr with
            | [u0], ⟨z0, _⟩ =>
              have k0 : Num w u0 _ := z0.2
              refine (cB1 _ _ k0).mono ?_
              rintro e w' ⟨rfl, hf⟩
              exact ⟨_, rfl, ⟨rfl, fun _ => trivial⟩, hf⟩ },
        { args := [.one (.atom (.den (.v 0)))], ans := .v (.one (.atom (.sym 2))), ok := by
            intro B ρ w S vs hS hr
            match vs, hr with
            | [u0], ⟨z0, _⟩ =>
              have k0 : Num w u0 _ := z0.2
              refine (cB2 _ _ k0).mono ?_
              rintro e w' ⟨rfl, hf⟩
              exact ⟨_, rfl, ⟨rfl, fun _ => trivial⟩, hf⟩ }],
      orcT 55 [
        { args := [.one (.atom (.num (.v 0))), .one (.atom (.den (.v 0))), .one (.atom (.sym 4))], ans := .tup [.one (.atom (.num (.v 10))), .one (.atom (.num (.v 11)))], ok := by
            intro B ρ w S vs hS hr
            match vs, hr with
            | [u0, u1, u2], ⟨z0, z1, z2, _⟩ =>
              have k0 : Num w u0 _ := z0.2
              have k1 : Num w u1 _ := z1.2
              obtain ⟨rfl, _⟩ : u2 = _ ∧ _ := z2
              refine (cS1 _ _ _ k0 k1).mono ?_
              rintro e w' ⟨a, b, rfl, g0, g1, hf⟩
              exact ⟨_, rfl, ⟨[_, _], rfl, ⟨rfl, g0⟩, ⟨rfl, g1⟩, trivial⟩, hf⟩ },
        { args := [.one (.atom (.num (.v 0))), .one (.atom (.den (.v 0))), .one (.atom (.sym 8))], ans := .tup [.one (.atom (.num (.v 12))), .one (.atom (.num (.v 13)))], ok := by
            intro B ρ w S vs hS hr
            match vs, hr with
            | [u0, u1, u2], ⟨z0, z1, z2, _⟩ =>
              have k0 : Num w u0 _ := z0.2
              have k1 : Num w u1 _ := z1.2
              obtain ⟨rfl, _⟩ : u2 = _ ∧ _ := z2
              refine (cS2 _ _ _ k0 k1).mono ?_
              rintro e w' ⟨a, b, rfl, g0, g1, hf⟩
              exact ⟨_, rfl, ⟨[_, _], rfl, ⟨rfl, g0⟩, ⟨rfl, g1⟩, trivial⟩, hf⟩ }],
      orcT 40 [
        { args := [.one (.atom (.num (.v 10))), .one (.atom (.num (.v 11)))], ans := .v (.one (.atom (.sym 16))), ok := by
            intro B ρ w S vs hS hr
            match vs, hr with
            | [u0, u1], ⟨z0, z1, _⟩ =>
              have k0 : Num w u0 _ := z0.2
              have k1 : Num w u1 _ := z1.2
              refine (cC1 _ _ _ k0 k1).mono ?_
              rintro e w' ⟨rfl, hf⟩
              exact ⟨_, rfl, ⟨rfl, fun _ => trivial⟩, hf⟩ },
        { args := [.one (.atom (.num (.v 16))), .one (.atom (.num (.v 13)))], ans := .v (.one (.atom (.sym 10))), ok := by
            intro B ρ w S vs hS hr
            match vs, hr with
            | [u0, u1], ⟨z0, z1, _⟩ =>
              have k0 : Num w u0 _ := z0.2
              have k1 : Num w u1 _ := z1.2
              refine (cC2 _ _ _ k0 k1).mono ?_
              rintro e w' ⟨rfl, hf⟩
              exact ⟨_, rfl, ⟨rfl, fun _ => trivial⟩, hf⟩ }],
      orcT 43 [
        { args := [.one (.atom (.num (.v 12))), .one (.atom (.num (.v 13)))], ans := .tup [.one (.atom (.num (.v 14))), .one (.atom (.num (.v 15))), .one (.lit (.int .i64 (0)))], ok := by
            intro B ρ w S vs hS hr
            match vs, hr with
            | [u0, u1], ⟨z0, z1, _⟩ =>
              have k0 : Num w u0 _ := z0.2
              have k1 : Num w u1 _ := z1.2
              refine (refDiv_any (m := numR N D) (n := denR N D) k0 k1 (by omega) (by omega) (by omega)).mono ?_
              rintro e w' ⟨a, b, rfl, g0, g1, hf⟩
              exact ⟨_, rfl, ⟨[_, _, _], rfl, ⟨rfl, g0⟩, ⟨rfl, g1⟩, ⟨rfl, rfl⟩, trivial⟩, hf⟩ }],
      orcT 63 [
        { args := [.one (.atom (.num (.v 14)))], ans := .tup [.one (.atom (.sym 9)), .one (.lit (.bool true))], ok := by
            intro B ρ w S vs hS hr
            match vs, hr with
            | [u0], ⟨z0, _⟩ =>
              have k0 : Num w u0 _ := z0.2
              refine (cSm _ _ k0).mono ?_
              rintro e w' ⟨rfl, hf⟩
              exact ⟨_, rfl, ⟨[_, _], rfl, ⟨rfl, fun _ => trivial⟩, ⟨rfl, rfl⟩, trivial⟩, hf⟩ }],
      orcT 10 [
        { args := [.one (.atom (.num (.v 15))), .one (.lit (.int .i64 (1)))], ans := .v (.one (.atom (.num (.v 16)))), ok := by
            intro B ρ w S vs hS hr
            match vs, hr with
            | [u0, u1], ⟨z0, z1, _⟩ =>
              have k0 : Num w u0 _ := z0.2
              obtain ⟨rfl, _⟩ : u1 = _ ∧ _ := z1
              refine (cSl _ _ k0).mono ?_
              rintro e w' ⟨x, rfl, g0, hf⟩
              exact ⟨_, rfl, ⟨rfl, g0⟩, hf⟩ }],
      orcT 64 [
        { args := [.one (.atom (.neg (.v 0))), .one (.atom (.sym 10)), .one (.atom (.sym 17)), .one (.atom (.sym 0))], ans := .v (.one (.lit (.bool upb))), ok := by
            intro B ρ w S vs hS hr
            match vs, hr with
            | [u0, u1, u2, u3], ⟨z0, z1, z2, z3, _⟩ =>
              obtain ⟨_, rfl⟩ : _ ∧ u0 = _ := z0
              obtain ⟨rfl, _⟩ : u1 = _ ∧ _ := z1
              obtain ⟨rfl, _⟩ : u2 = _ ∧ _ := z2
              obtain ⟨rfl, _⟩ : u3 = _ ∧ _ := z3
              refine (cUp _).mono ?_
              rintro e w' ⟨rfl, hf⟩
              exact ⟨_, rfl, ⟨rfl, rfl⟩, hf⟩ }],
      orcT 65 [
        { args := [.one (.atom (.neg (.v 0))), .one (.atom (.sym 9)), .one (.atom (.sym 7)), .one (.atom (.sym 0)), .one (.lit (.int .i64 (0)))], ans := .tup [.one (.atom (.sym 14)), .one (.atom (.sym 15))], ok := by
            intro B ρ w S vs hS hr
            match vs, hr with
            | [u0, u1, u2, u3, u4], ⟨z0, z1, z2, z3, z4, _⟩ =>
              obtain ⟨_, rfl⟩ : _ ∧ u0 = _ := z0
              obtain ⟨rfl, _⟩ : u1 = _ ∧ _ := z1
              obtain ⟨rfl, _⟩ : u2 = _ ∧ _ := z2
              obtain ⟨rfl, _⟩ : u3 = _ ∧ _ := z3
              obtain ⟨rfl, _⟩ : u4 = _ ∧ _ := z4
              refine (cPk _ (numR N D / denR N D + 0) 0 (by omega)).mono ?_
              rintro e w' ⟨rfl, hf⟩
              exact ⟨_, rfl, ⟨[_, _], rfl, ⟨rfl, fun _ => trivial⟩, ⟨rfl, fun _ => trivial⟩, trivial⟩, hf⟩ },
        { args := [.one (.atom (.neg (.v 0))), .one (.atom (.sym 9)), .one (.atom (.sym 7)), .one (.atom (.sym 0)), .one (.lit (.int .i64 (1)))], ans := .tup [.one (.atom (.sym 18)), .one (.atom (.sym 19))], ok := by
            intro B ρ w S vs hS hr
            match vs, hr with
            | [u0, u1, u2, u3, u4], ⟨z0, z1, z2, z3, z4, _⟩ =>
              obtain ⟨_, rfl⟩ : _ ∧ u0 = _ := z0
              obtain ⟨rfl, _⟩ : u1 = _ ∧ _ := z1
              obtain ⟨rfl, _⟩ : u2 = _ ∧ _ := z2
              obtain ⟨rfl, _⟩ : u3 = _ ∧ _ := z3
              obtain ⟨rfl, _⟩ : u4 = _ ∧ _ := z4
              refine (cPk _ (numR N D / denR N D + 0) 1 (by omega)).mono ?_
              rintro e w' ⟨rfl, hf⟩
              exact ⟨_, rfl, ⟨[_, _], rfl, ⟨rfl, fun _ => trivial⟩, ⟨rfl, fun _ => trivial⟩, trivial⟩, hf⟩ },
        { args := [.one (.atom (.neg (.v 0))), .one (.atom (.sym 9)), .one (.atom (.sym 7)), .one (.atom (.sym 0)), .one (.lit (.int .i64 (3)))], ans := .tup [.one (.atom (.sym 20)), .one (.atom (.sym 21))], ok := by
            intro B ρ w S vs hS hr
            match vs, hr with
            | [u0, u1, u2, u3, u4], ⟨z0, z1, z2, z3, z4, _⟩ =>
              obtain ⟨_, rfl⟩ : _ ∧ u0 = _ := z0
              obtain ⟨rfl, _⟩ : u1 = _ ∧ _ := z1
              obtain ⟨rfl, _⟩ : u2 = _ ∧ _ := z2
              obtain ⟨rfl, _⟩ : u3 = _ ∧ _ := z3
              obtain ⟨rfl, _⟩ : u4 = _ ∧ _ := z4
              refine (cPk _ (numR N D / denR N D + 0) 3 (by omega)).mono ?_
              rintro e w' ⟨rfl, hf⟩
              exact ⟨_, rfl, ⟨[_, _], rfl, ⟨rfl, fun _ => trivial⟩, ⟨rfl, fun _ => trivial⟩, trivial⟩, hf⟩ },
        { args := [.one (.atom (.neg (.v 0))), .one (.atom (.sym 12)), .one (.atom (.sym 7)), .one (.atom (.sym 0)), .one (.lit (.int .i64 (1)))], ans := .tup [.one (.atom (.sym 22)), .one (.atom (.sym 23))], ok := by
            intro B ρ w S vs hS hr
            match vs, hr with
            | [u0, u1, u2, u3, u4], ⟨z0, z1, z2, z3, z4, _⟩ =>
              obtain ⟨_, rfl⟩ : _ ∧ u0 = _ := z0
              obtain ⟨rfl, _⟩ : u1 = _ ∧ _ := z1
              obtain ⟨rfl, _⟩ : u2 = _ ∧ _ := z2
              obtain ⟨rfl, _⟩ : u3 = _ ∧ _ := z3
              obtain ⟨rfl, _⟩ : u4 = _ ∧ _ := z4
              refine (cPk _ (numR N D / denR N D + 1) 1 (by omega)).mono ?_
              rintro e w' ⟨rfl, hf⟩
              exact ⟨_, rfl, ⟨[_, _], rfl, ⟨rfl, fun _ => trivial⟩, ⟨rfl, fun _ => trivial⟩, trivial⟩, hf⟩ },
        { args := [.one (.atom (.neg (.v 0))), .one (.atom (.sym 12)), .one (.atom (.sym 7)), .one (.atom (.sym 0)), .one (.lit (.int .i64 (3)))], ans := .tup [.one (.atom (.sym 24)), .one (.atom (.sym 25))], ok := by
            intro B ρ w S vs hS hr
            match vs, hr with
            | [u0, u1, u2, u3, u4], ⟨z0, z1, z2, z3, z4, _⟩ =>
              obtain ⟨_, rfl⟩ : _ ∧ u0 = _ := z0
              obtain ⟨rfl, _⟩ : u1 = _ ∧ _ := z1
              obtain ⟨rfl, _⟩ : u2 = _ ∧ _ := z2
              obtain ⟨rfl, _⟩ : u3 = _ ∧ _ := z3
              obtain ⟨rfl, _⟩ : u4 = _ ∧ _ := z4
              refine (cPk _ (numR N D / denR N D + 1) 3 (by omega)).mono ?_
              rintro e w' ⟨rfl, hf⟩
              exact ⟨_, rfl, ⟨[_, _], rfl, ⟨rfl, fun _ => trivial⟩, ⟨rfl, fun _ => trivial⟩, trivial⟩, hf⟩ }]], rfl⟩
    (opH_le (bigHook_le _ _) (opH_le (symHook_le _ _ _) (tabHook_le _ _)))
    (opH_ok (bigHook_ok _) (opH_ok (symHook_ok _ (by
        intro d j w u hd hu
        unfold of3tN at hd
        split at hd
        · obtain rfl := Option.some.inj hd
          have hu' : Num w u _ := hu.2
          obtain ⟨no, nc, rfl, _⟩ := hu'.parts
          exact ⟨_, _, _, rfl, rfl, fun _ => trivial⟩
        · cases hd) (fun h => by cases h)) (tabHook_ok _ (all_cons (BOk.mk rfl rfl rfl (fun _ _ _ => trivial) rfl rfl (bo_sub (by rw [← hp0]; exact wr64 (by omega) (by omega)))) (all_cons (BOk.mk rfl rfl rfl (fun _ _ _ => trivial) rfl rfl (bo_sub (by rw [Int.zero_sub]; exact wr64 (by omega) (by omega)))) (all_cons (BOk.mk rfl rfl rfl (fun _ _ _ => trivial) rfl rfl (bo_lss hcl)) (all_cons (BOk.mk rfl rfl rfl (fun _ _ _ => trivial) rfl rfl (bo_sub (wr64 (by omega) (by omega)))) (all_cons (BOk.mk rfl rfl rfl (fun _ _ _ => trivial) rfl rfl (bo_sub (by rw [wr64 (by omega) (by omega)]; omega))) (all_cons (BOk.mk rfl rfl rfl (fun _ _ _ => trivial) rfl rfl (bo_sub (by rw [Int.zero_sub]; exact wr64 (by omega) (by omega)))) (all_cons (BOk.mk rfl rfl rfl (fun _ _ _ => trivial) rfl rfl (bo_gtr hlen)) (all_cons (BOk.mk rfl rfl rfl (fun _ _ _ => trivial) rfl rfl (bo_lss (by rw [← hsub, hpex]))) (all_cons (BOk.mk rfl rfl rfl (fun _ _ _ => trivial) rfl rfl (bo_rem2 _ (by omega))) (all_cons (BOk.mk rfl rfl rfl (fun _ _ _ => trivial) rfl rfl (bo_eql (by congr 1; exact propext ⟨fun h => by omega, fun h => by omega⟩))) (all_cons (BOk.mk rfl rfl rfl (fun _ _ _ => trivial) rfl rfl (bo_add hv1)) all_nil))))))))))) (all_cons ⟨rfl, rfl, rfl, fun _ _ _ => trivial, _, _, rfl, rfl, (by rfl)⟩ all_nil))))
  refine (told_call (M := (DomQ true ν σ (fun _ => none))) (cx := ⟨Tryd.prog, true, t.get, orcD (of3tD r0 sub upb), (opH (bigHook Tryd.prog true) (opH (symHook Tryd.prog of3tN (fun _ _ _ => none)) (tabHook (of3tL r0 sub upb) of3tM)))⟩) (xs := [avQ (.v 0), .one (.atom (.sym 0))]) (vs := [v, .int .i64 m]) Tryd.checked.mixed hcx (fun hg => by cases hg) ⟨avQ_rel hv, ⟨rfl, fun _ => trivial⟩, trivial⟩ he).mono ?_
  rintro e w' ⟨v, ρ', rfl, hv, hbel⟩
  cases r0 <;> cases sub <;> cases upb
  all_goals
    obtain ⟨us, rfl, hu⟩ := hv
    match us, hu with
    | [c0, c1], ⟨r0, r1, _⟩ =>
      obtain ⟨rfl, _⟩ : c0 = _ ∧ _ := r0
      obtain ⟨rfl, _⟩ : c1 = _ ∧ _ := r1
      exact ⟨rfl, hbel⟩

def of3fD (r0 : Bool) (sub : Bool) (upb : Bool) : List (FuncId × Ans) :=
  [(61, ansT [([avQ (.v 0)], .v (.one (.lit (.bool false))))]),
   (62, ansT [([.one (.atom (.num (.v 0)))], .v (.one (.atom (.sym 1)))), ([.one (.atom (.den (.v 0)))], .v (.one (.atom (.sym 2))))]),
   (55, ansT [([.one (.atom (.num (.v 0))), .one (.atom (.den (.v 0))), .one (.atom (.sym 4))], .tup [.one (.atom (.num (.v 10))), .one (.atom (.num (.v 11)))]), ([.one (.atom (.num (.v 0))), .one (.atom (.den (.v 0))), .one (.atom (.sym 8))], .tup [.one (.atom (.num (.v 12))), .one (.atom (.num (.v 13)))])]),
   (40, ansT [([.one (.atom (.num (.v 10))), .one (.atom (.num (.v 11)))], .v (.one (.atom (.sym 16)))), ([.one (.atom (.num (.v 16))), .one (.atom (.num (.v 13)))], .v (.one (.atom (.sym 10))))]),
   (43, ansT [([.one (.atom (.num (.v 12))), .one (.atom (.num (.v 13)))], .tup [.one (.atom (.num (.v 14))), .one (.atom (.num (.v 15))), .one (.lit (.int .i64 (0)))])]),
   (63, ansT [([.one (.atom (.num (.v 14)))], .tup [.one (.atom (.sym 9)), .one (.lit (.bool true))])]),
   (10, ansT [([.one (.atom (.num (.v 15))), .one (.lit (.int .i64 (1)))], .v (.one (.atom (.num (.v 16)))))]),
   (64, ansT [([.one (.atom (.neg (.v 0))), .one (.atom (.sym 10)), .one (.atom (.sym 17)), .one (.atom (.sym 0))], .v (.one (.lit (.bool upb))))]),
   (65, ansT [([.one (.atom (.neg (.v 0))), .one (.atom (.sym 9)), .one (.atom (.sym 7)), .one (.atom (.sym 0)), .one (.lit (.int .i64 (0)))], .tup [.one (.atom (.sym 14)), .one (.atom (.sym 15))]), ([.one (.atom (.neg (.v 0))), .one (.atom (.sym 9)), .one (.atom (.sym 7)), .one (.atom (.sym 0)), .one (.lit (.int .i64 (1)))], .tup [.one (.atom (.sym 18)), .one (.atom (.sym 19))]), ([.one (.atom (.neg (.v 0))), .one (.atom (.sym 9)), .one (.atom (.sym 7)), .one (.atom (.sym 0)), .one (.lit (.int .i64 (3)))], .tup [.one (.atom (.sym 20)), .one (.atom (.sym 21))]), ([.one (.atom (.neg (.v 0))), .one (.atom (.sym 12)), .one (.atom (.sym 7)), .one (.atom (.sym 0)), .one (.lit (.int .i64 (1)))], .tup [.one (.atom (.sym 22)), .one (.atom (.sym 23))]), ([.one (.atom (.neg (.v 0))), .one (.atom (.sym 12)), .one (.atom (.sym 7)), .one (.atom (.sym 0)), .one (.lit (.int .i64 (3)))], .tup [.one (.atom (.sym 24)), .one (.atom (.sym 25))])])]
def of3fL (r0 : Bool) (sub : Bool) (upb : Bool) : BT := [(.sub, .atom (.sym 1), .atom (.sym 2), .atom (.sym 3)), (.sub, .lit (.int .i64 (0)), .atom (.sym 3), .atom (.sym 4)), (.lss, .atom (.sym 16), .lit (.int .i64 (0)), .lit (.bool false)), (.sub, .atom (.sym 3), .lit (.int .i64 (1)), .atom (.sym 5)), (.sub, .atom (.sym 3), .lit (.int .i64 (52)), .atom (.sym 6)), (.sub, .lit (.int .i64 (0)), .atom (.sym 7), .atom (.sym 8)), (.gtr, .atom (.sym 13), .lit (.int .i64 (0)), .lit (.bool (!r0))), (.lss, .atom (.sym 3), .lit (.int .i64 (-1022)), .lit (.bool sub)), (.rem, .atom (.sym 9), .lit (.int .u64 2), .atom (.sym 11)), (.eql, .atom (.sym 11), .lit (.int .u64 1), .atom (.sym 17)), (.add, .atom (.sym 9), .lit (.int .u64 1), .atom (.sym 12))]
def of3fM : BT := [(.add, .atom (.sym 6), .lit (.int .i64 (-1074)), .atom (.sym 7))]
def of3fN : At → Option Nat
  | .num (.v 15) => some 13
  | _ => none

set_option maxRecDepth 1000000 in
theorem of3fTold : ∃ t : Tr Func, TabOK Tryd.prog t ∧ (∀ (r0 : Bool) (sub : Bool) (upb : Bool), isAV (.tup [.one (.atom (.sym (bif r0 then 14 else bif upb then (bif sub then 24 else 22) else (bif sub then 20 else 18)))), .one (.atom (.sym (bif r0 then 15 else bif upb then (bif sub then 25 else 23) else (bif sub then 21 else 19))))]) (evalCall ⟨Tryd.prog, true, t.get, orcD (of3fD r0 sub upb), (opH (bigHook Tryd.prog true) (opH (symHook Tryd.prog of3fN (fun _ _ _ => none)) (tabHook (of3fL r0 sub upb) of3fM)))⟩ 1000 24 [avQ (.v 0), .one (.atom (.sym 0))] .e 0) = true) :=
  ⟨((((((((((Tr.e).put 24 (some Tryd.f24)).put 61 (some Tryd.f61)).put 62 (some Tryd.f62)).put 55 (some Tryd.f55)).put 40 (some Tryd.f40)).put 43 (some Tryd.f43)).put 63 (some Tryd.f63)).put 10 (some Tryd.f10)).put 64 (some Tryd.f64)).put 65 (some Tryd.f65),
   (TabOK.put (TabOK.put (TabOK.put (TabOK.put (TabOK.put (TabOK.put (TabOK.put (TabOK.put (TabOK.put (TabOK.put (TabOK.e _) ⟨Tryd.func24, by decide +kernel, by decide +kernel⟩) ⟨Tryd.func61, by decide +kernel, by decide +kernel⟩) ⟨Tryd.func62, by decide +kernel, by decide +kernel⟩) ⟨Tryd.func55, by decide +kernel, by decide +kernel⟩) ⟨Tryd.func40, by decide +kernel, by decide +kernel⟩) ⟨Tryd.func43, by decide +kernel, by decide +kernel⟩) ⟨Tryd.func63, by decide +kernel, by decide +kernel⟩) ⟨Tryd.func10, by decide +kernel, by decide +kernel⟩) ⟨Tryd.func64, by decide +kernel, by decide +kernel⟩) ⟨Tryd.func65, by decide +kernel, by decide +kernel⟩),
   by decide +kernel⟩

set_option maxHeartbeats 4000000 in
set_option maxRecDepth 100000 in
theorem of3f_tab {w : World} {v : Value} {q : Rat} (m : Int) (hv : RV w v q) (hq : nr q ≤ 150) (h0 : q ≠ 0) {r0 sub upb : Bool}
    (hlt : decide (q.num.natAbs * 2 ^ (-((blen q.num.natAbs : Int) - (blen q.den : Int))).toNat < q.den * 2 ^ ((blen q.num.natAbs : Int) - (blen q.den : Int)).toNat) = false)
    (hr0 : decide (numR q.num.natAbs q.den % denR q.num.natAbs q.den = 0) = r0) (hsub : decide (pex q.num.natAbs q.den < -1022) = sub)
    (hup : upR m (negQ q) (half (numR q.num.natAbs q.den % denR q.num.natAbs q.den) (denR q.num.natAbs q.den)) (decide (numR q.num.natAbs q.den / denR q.num.natAbs q.den % 2 = 1)) = upb) :
    Calls Tryd.prog 24 #[v, .int .i64 m] w fun e w' => e = .returned (.tuple #[.int .u64 ((ofR m (negQ q) q.num.natAbs q.den).1 : Nat), .int .i64 ((ofR m (negQ q) q.num.natAbs q.den).2 : Nat)]) ∧ Below w.heap.size w w' := by
  have b1 := nr_num q
  have b2 := nr_den q
  have hN0 : q.num.natAbs ≠ 0 := fun h => h0 ((natAbs_zero_iff q).1 h)
  have hD0 := q.den_nz
  have hof : ofR m (negQ q) q.num.natAbs q.den = packR m (negQ q) (numR q.num.natAbs q.den / denR q.num.natAbs q.den + (if r0 = true then 0 else if upb = true then 1 else 0)) (ulpR q.num.natAbs q.den) (if r0 = true then 0 else if sub = true then 3 else 1) := by
    unfold ofR upN flR
    rw [if_neg hN0, hup]
    subst hr0 hsub
    simp only [decide_eq_true_eq]
  rw [hof]
  clear hof
  obtain ⟨N, hN⟩ : ∃ N, N = q.num.natAbs := ⟨_, rfl⟩
  obtain ⟨D, hD⟩ : ∃ D, D = q.den := ⟨_, rfl⟩
  have bN : nl N ≤ 150 := by rw [hN]; omega
  have bD : nl D ≤ 150 := by rw [hD]; omega
  rw [← hN, ← hD] at hlt hr0 hup ⊢
  rw [← hN] at hN0
  rw [← hD] at hD0
  rw [← hN, ← hD] at hsub
  have lN := blen_nl N
  have lD := blen_nl D
  obtain ⟨p0, hp0⟩ : ∃ p0, p0 = (blen N : Int) - (blen D : Int) := ⟨_, rfl⟩
  rw [← hp0] at hlt
  have hpex : pex N D = p0 - (if false = true then 1 else 0) := by
    unfold pex; rw [← hp0]; have := hlt; by_cases c : N * 2 ^ (-p0).toNat < D * 2 ^ p0.toNat <;> simp [c] at this ⊢
  have hpl : p0 - 1 ≤ pex N D ∧ pex N D ≤ p0 := by rw [hpex]; split <;> omega
  have hu1 : -1074 ≤ ulpR N D ∧ ulpR N D ≤ 5000 := by unfold ulpR; omega
  have hu2 : -6000 ≤ ulpR N D := by omega
  obtain ⟨n1, hn1⟩ : ∃ n1, n1 = N * 2 ^ (-p0).toNat := ⟨_, rfl⟩
  obtain ⟨d1, hd1⟩ : ∃ d1, d1 = D * 2 ^ (-(-p0)).toNat := ⟨_, rfl⟩
  have hn1' : ∀ k : Int, k = -p0 → N * 2 ^ k.toNat = n1 := fun k hk => by rw [hn1, hk]
  have hd1' : ∀ k : Int, k = -p0 → D * 2 ^ (-k).toNat = d1 := fun k hk => by rw [hd1, hk]
  have bn1 : nl n1 ≤ 1000 := by have := nl_shl N (-p0).toNat; rw [← hn1] at this; omega
  have bd1 : nl d1 ≤ 1000 := by have := nl_shl D (-(-p0)).toNat; rw [← hd1] at this; omega
  have bnR : nl (numR N D) ≤ 1000 := by have := nl_shl N (-(ulpR N D)).toNat; unfold numR; omega
  have bdR : nl (denR N D) ≤ 1000 := by have := nl_shl D (ulpR N D).toNat; unfold denR; omega
  have hdR := denR_pos (N := N) hD0
  have hqb := (numR_lt hN0 hD0).1
  have bq : nl (numR N D / denR N D) ≤ 2 := nl_two' hqb
  have br : nl (numR N D % denR N D) ≤ 1000 := by have := nl_mono (Nat.le_of_lt (Nat.mod_lt (numR N D) hdR)); omega
  have b2r : nl ((numR N D % denR N D) * 2) ≤ 1100 := by
    have := nl_shl (numR N D % denR N D) 1
    rw [Nat.pow_one] at this; omega
  have hlen : decide (0 < (nl (numR N D % denR N D) : Int)) = !r0 := by
    subst hr0
    by_cases c : numR N D % denR N D = 0
    · rw [c, decide_eq_true rfl]; rfl
    · rw [decide_eq_false c, decide_eq_true (by rw [nl_pos c]; omega)]; rfl
  have hcl : decide (cmpW n1 d1 < 0) = false := by
    rw [← hlt, hn1, hd1, Int.neg_neg]; exact cmpW_lt _ _
  have hfw : ∀ {w w' : World}, w' = w → Fwd w w' := fun h => h ▸ Fwd.refl _
  have cNo : ∀ (w : World) (u : Value), RV w u q → Calls Tryd.prog 61 #[u] w fun e w' => e = .returned (.bool false) ∧ Fwd w w' := fun w u h => by
    have := nought2_num h (by omega); rwa [decide_eq_false h0] at this
  have cB1 : ∀ (w : World) (u : Value), Num w u q.num.natAbs → Calls Tryd.prog 62 #[u] w fun e w' => e = .returned (.int .i64 (blen N : Int)) ∧ Fwd w w' := fun w u h =>
    (refBits_any h (by omega)).mono fun e w' g => ⟨by rw [hN]; exact g.1, hfw g.2.symm⟩
  have cB2 : ∀ (w : World) (u : Value), Num w u q.den → Calls Tryd.prog 62 #[u] w fun e w' => e = .returned (.int .i64 (blen D : Int)) ∧ Fwd w w' := fun w u h =>
    (refBits_any h (by omega)).mono fun e w' g => ⟨by rw [hD]; exact g.1, hfw g.2.symm⟩
  have cS1 : ∀ (w : World) (u u' : Value), Num w u q.num.natAbs → Num w u' q.den → Calls Tryd.prog 55 #[u, u', .int .i64 (-p0)] w fun e w' => ∃ a b, e = .returned (.tuple #[a, b]) ∧ Num w' a n1 ∧ Num w' b d1 ∧ Fwd w w' := fun w u u' h h' => by
    have := shift3_any (-p0) (by omega) (by omega) h h' (by omega) (by omega)
    rwa [← hN, ← hD, ← hn1, ← hd1] at this
  have cS2 : ∀ (w : World) (u u' : Value), Num w u q.num.natAbs → Num w u' q.den → Calls Tryd.prog 55 #[u, u', .int .i64 (-(ulpR N D))] w fun e w' => ∃ a b, e = .returned (.tuple #[a, b]) ∧ Num w' a (numR N D) ∧ Num w' b (denR N D) ∧ Fwd w w' := fun w u u' h h' => by
    have := shift3_any (-(ulpR N D)) (by omega) (by omega) h h' (by omega) (by omega)
    rw [← hN, ← hD, Int.neg_neg] at this
    exact this
  have cC1 : ∀ (w : World) (u u' : Value), Num w u n1 → Num w u' d1 → Calls Tryd.prog 40 #[u, u'] w fun e w' => e = .returned (.int .i64 (cmpW n1 d1)) ∧ Fwd w w' := fun w u u' h h' => refCmp_any h h' (by omega) (by omega)
  have cC2 : ∀ (w : World) (u u' : Value), Num w u ((numR N D % denR N D) * 2) → Num w u' (denR N D) → Calls Tryd.prog 40 #[u, u'] w fun e w' => e = .returned (.int .i64 (half (numR N D % denR N D) (denR N D))) ∧ Fwd w w' := fun w u u' h h' => by
    have := refCmp_any h h' (by omega) (by omega)
    rwa [cmpW_half] at this
  have cSm : ∀ (w : World) (u : Value), Num w u (numR N D / denR N D) → Calls Tryd.prog 63 #[u] w fun e w' => e = .returned (.tuple #[.int .u64 ((numR N D / denR N D : Nat) : Int), .bool true]) ∧ Fwd w w' := fun w u h => by
    have := refSmall_any h (by omega)
    unfold smallV at this
    rwa [if_pos (by omega)] at this
  have cSl : ∀ (w : World) (u : Value), Num w u (numR N D % denR N D) → Calls Tryd.prog 10 #[u, .int .i64 1] w fun e w' => ∃ x, e = .returned x ∧ Num w' x ((numR N D % denR N D) * 2) ∧ Fwd w w' := fun w u h => by
    have := refShl_any 1 h (by omega) (by omega)
    rwa [Nat.pow_one] at this
  have cUp : ∀ (w : World), Calls Tryd.prog 64 #[.bool (negQ q), .int .i64 (half (numR N D % denR N D) (denR N D)), .bool (decide (numR N D / denR N D % 2 = 1)), .int .i64 m] w fun e w' => e = .returned (.bool upb) ∧ Fwd w w' := fun w =>
    (up3_any (negQ q) _ _ m).mono fun e w' g => ⟨by rw [← hup]; exact g.1, hfw g.2⟩
  have cPk : ∀ (w : World) (x fl : Nat), x ≤ 9007199254740992 → Calls Tryd.prog 65 #[.bool (negQ q), .int .u64 x, .int .i64 (ulpR N D), .int .i64 m, .int .i64 fl] w fun e w' => e = .returned (.tuple #[.int .u64 ((packR m (negQ q) x (ulpR N D) fl).1 : Nat), .int .i64 ((packR m (negQ q) x (ulpR N D) fl).2 : Nat)]) ∧ Fwd w w' := fun w x fl h =>
    (pack3_any (negQ q) x (ulpR N D) m fl h hu1.1 (by omega)).mono fun e w' g => ⟨g.1, hfw g.2⟩
  have hv1 : IntKind.u64.wrap (((numR N D / denR N D : Nat) : Int) + 1) = ((numR N D / denR N D + 1 : Nat) : Int) := wrU1 _ (by omega)
  clear hlt hr0 hup
  simp only [if_true, Bool.false_eq_true, if_false, Int.sub_zero] at hpex
  obtain ⟨t, ht, hr⟩ := of3fTold
  obtain ⟨dl, n', he⟩ := isAV_ok (hr r0 sub upb)
  let ν : Nat → Rat := nuL [q] [n1, d1, numR N D, denR N D, numR N D / denR N D, numR N D % denR N D, (numR N D % denR N D) * 2]
  let σ : SymD := symL [.i m, .i (blen N : Int), .i (blen D : Int), .i p0, .i (-p0), .i (p0 - 1), .i (pex N D - 52), .i (ulpR N D), .i (-(ulpR N D)), .u (numR N D / denR N D), .i (half (numR N D % denR N D) (denR N D)), .u (numR N D / denR N D % 2), .u (numR N D / denR N D + 1), .i (nl (numR N D % denR N D) : Int), .u (packR m (negQ q) (numR N D / denR N D + 0) (ulpR N D) 0).1, .i ((packR m (negQ q) (numR N D / denR N D + 0) (ulpR N D) 0).2 : Int), .i (cmpW n1 d1), .b (decide (numR N D / denR N D % 2 = 1)), .u (packR m (negQ q) (numR N D / denR N D + 0) (ulpR N D) 1).1, .i ((packR m (negQ q) (numR N D / denR N D + 0) (ulpR N D) 1).2 : Int), .u (packR m (negQ q) (numR N D / denR N D + 0) (ulpR N D) 3).1, .i ((packR m (negQ q) (numR N D / denR N D + 0) (ulpR N D) 3).2 : Int), .u (packR m (negQ q) (numR N D / denR N D + 1) (ulpR N D) 1).1, .i ((packR m (negQ q) (numR N D / denR N D + 1) (ulpR N D) 1).2 : Int), .u (packR m (negQ q) (numR N D / denR N D + 1) (ulpR N D) 3).1, .i ((packR m (negQ q) (numR N D / denR N D + 1) (ulpR N D) 3).2 : Int)]
  have hcx : CxOK (DomQ true ν σ (fun _ => none)) w.heap.size ⟨Tryd.prog, true, t.get, orcD (of3fD r0 sub upb), (opH (bigHook Tryd.prog true) (opH (symHook Tryd.prog of3fN (fun _ _ _ => none)) (tabHook (of3fL r0 sub upb) of3fM)))⟩ := cxS_ok (M := (DomQ true ν σ (fun _ => none))) ht ⟨[
      orcT 61 [
        { args := [avQ (.v 0)], ans := .v (.one (.lit (.bool false))), ok := by
            intro B ρ w S vs hS hr
            match vs, hr with
            | [u0], ⟨z0, _⟩ =>
              have k0 := avQ_rv z0
              refine (cNo _ _ k0).mono ?_
              rintro e w' ⟨rfl, hf⟩
              exact ⟨_, rfl, ⟨rfl, rfl⟩, hf⟩ }],
      orcT 62 [
        { args := [.one (.atom (.num (.v 0)))], ans := .v (.one (.atom (.sym 1))), ok := by
            intro B ρ w S vs hS hr
            match vs, hr with
            | [u0], ⟨z0, _⟩ =>
              have k0 : Num w u0 _ := z0.2
              refine (cB1 _ _ k0).mono ?_
              rintro e w' ⟨rfl, hf⟩
              exact ⟨_, rfl, ⟨rfl, fun _ => trivial⟩, hf⟩ },
        { args := [.one (.atom (.den (.v 0)))], ans := .v (.one (.atom (.sym 2))), ok := by
            intro B ρ w S vs hS hr
            match vs, hr with
            | [u0], ⟨z0, _⟩ =>
              have k0 : Num w u0 _ := z0.2
              refine (cB2 _ _ k0).mono ?_
              rintro e w' ⟨rfl, hf⟩
              exact ⟨_, rfl, ⟨rfl, fun _ => trivial⟩, hf⟩ }],
      orcT 55 [
        { args := [.one (.atom (.num (.v 0))), .one (.atom (.den (.v 0))), .one (.atom (.sym 4))], ans := .tup [.one (.atom (.num (.v 10))), .one (.atom (.num (.v 11)))], ok := by
            intro B ρ w S vs hS hr
            match vs, hr with
            | [u0, u1, u2], ⟨z0, z1, z2, _⟩ =>
              have k0 : Num w u0 _ := z0.2
              have k1 : Num w u1 _ := z1.2
              obtain ⟨rfl, _⟩ : u2 = _ ∧ _ := z2
              refine (cS1 _ _ _ k0 k1).mono ?_
              rintro e w' ⟨a, b, rfl, g0, g1, hf⟩
              exact ⟨_, rfl, ⟨[_, _], rfl, ⟨rfl, g0⟩, ⟨rfl, g1⟩, trivial⟩, hf⟩ },
        { args := [.one (.atom (.num (.v 0))), .one (.atom (.den (.v 0))), .one (.atom (.sym 8))], ans := .tup [.one (.atom (.num (.v 12))), .one (.atom (.num (.v 13)))], ok := by
            intro B ρ w S vs hS hr
            match vs, hr with
            | [u0, u1, u2], ⟨z0, z1, z2, _⟩ =>
              have k0 : Num w u0 _ := z0.2
              have k1 : Num w u1 _ := z1.2
              obtain ⟨rfl, _⟩ : u2 = _ ∧ _ := z2
              refine (cS2 _ _ _ k0 k1).mono ?_
              rintro e w' ⟨a, b, rfl, g0, g1, hf⟩
              exact ⟨_, rfl, ⟨[_, _], rfl, ⟨rfl, g0⟩, ⟨rfl, g1⟩, trivial⟩, hf⟩ }],
      orcT 40 [
        { args := [.one (.atom (.num (.v 10))), .one (.atom (.num (.v 11)))], ans := .v (.one (.atom (.sym 16))), ok := by
            intro B ρ w S vs hS hr
            match vs, hr with
            | [u0, u1], ⟨z0, z1, _⟩ =>
              have k0 : Num w u0 _ := z0.2
              have k1 : Num w u1 _ := z1.2
              refine (cC1 _ _ _ k0 k1).mono ?_
              rintro e w' ⟨rfl, hf⟩
              exact ⟨_, rfl, ⟨rfl, fun _ => trivial⟩, hf⟩ },
        { args := [.one (.atom (.num (.v 16))), .one (.atom (.num (.v 13)))], ans := .v (.one (.atom (.sym 10))), ok := by
            intro B ρ w S vs hS hr
            match vs, hr with
            | [u0, u1], ⟨z0, z1, _⟩ =>
              have k0 : Num w u0 _ := z0.2
              have k1 : Num w u1 _ := z1.2
              refine (cC2 _ _ _ k0 k1).mono ?_
              rintro e w' ⟨rfl, hf⟩
              exact ⟨_, rfl, ⟨rfl, fun _ => trivial⟩, hf⟩ }],
      orcT 43 [
        { args := [.one (.atom (.num (.v 12))), .one (.atom (.num (.v 13)))], ans := .tup [.one (.atom (.num (.v 14))), .one (.atom (.num (.v 15))), .one (.lit (.int .i64 (0)))], ok := by
            intro B ρ w S vs hS hr
            match vs, hr with
            | [u0, u1], ⟨z0, z1, _⟩ =>
              have k0 : Num w u0 _ := z0.2
              have k1 : Num w u1 _ := z1.2
              refine (refDiv_any (m := numR N D) (n := denR N D) k0 k1 (by omega) (by omega) (by omega)).mono ?_
              rintro e w' ⟨a, b, rfl, g0, g1, hf⟩
              exact ⟨_, rfl, ⟨[_, _, _], rfl, ⟨rfl, g0⟩, ⟨rfl, g1⟩, ⟨rfl, rfl⟩, trivial⟩, hf⟩ }],
      orcT 63 [
        { args := [.one (.atom (.num (.v 14)))], ans := .tup [.one (.atom (.sym 9)), .one (.lit (.bool true))], ok := by
            intro B ρ w S vs hS hr
            match vs, hr with
            | [u0], ⟨z0, _⟩ =>
              have k0 : Num w u0 _ := z0.2
              refine (cSm _ _ k0).mono ?_
              rintro e w' ⟨rfl, hf⟩
              exact ⟨_, rfl, ⟨[_, _], rfl, ⟨rfl, fun _ => trivial⟩, ⟨rfl, rfl⟩, trivial⟩, hf⟩ }],
      orcT 10 [
        { args := [.one (.atom (.num (.v 15))), .one (.lit (.int .i64 (1)))], ans := .v (.one (.atom (.num (.v 16)))), ok := by
            intro B ρ w S vs hS hr
            match vs, hr with
            | [u0, u1], ⟨z0, z1, _⟩ =>
              have k0 : Num w u0 _ := z0.2
              obtain ⟨rfl, _⟩ : u1 = _ ∧ _ := z1
              refine (cSl _ _ k0).mono ?_
              rintro e w' ⟨x, rfl, g0, hf⟩
              exact ⟨_, rfl, ⟨rfl, g0⟩, hf⟩ }],
      orcT 64 [
        { args := [.one (.atom (.neg (.v 0))), .one (.atom (.sym 10)), .one (.atom (.sym 17)), .one (.atom (.sym 0))], ans := .v (.one (.lit (.bool upb))), ok := by
            intro B ρ w S vs hS hr
            match vs, hr with
            | [u0, u1, u2, u3], ⟨z0, z1, z2, z3, _⟩ =>
              obtain ⟨_, rfl⟩ : _ ∧ u0 = _ := z0
              obtain ⟨rfl, _⟩ : u1 = _ ∧ _ := z1
              obtain ⟨rfl, _⟩ : u2 = _ ∧ _ := z2
              obtain ⟨rfl, _⟩ : u3 = _ ∧ _ := z3
              refine (cUp _).mono ?_
              rintro e w' ⟨rfl, hf⟩
              exact ⟨_, rfl, ⟨rfl, rfl⟩, hf⟩ }],
      orcT 65 [
        { args := [.one (.atom (.neg (.v 0))), .one (.atom (.sym 9)), .one (.atom (.sym 7)), .one (.atom (.sym 0)), .one (.lit (.int .i64 (0)))], ans := .tup [.one (.atom (.sym 14)), .one (.atom (.sym 15))], ok := by
            intro B ρ w S vs hS hr
            match vs, hr with
            | [u0, u1, u2, u3, u4], ⟨z0, z1, z2, z3, z4, _⟩ =>
              obtain ⟨_, rfl⟩ : _ ∧ u0 = _ := z0
              obtain ⟨rfl, _⟩ : u1 = _ ∧ _ := z1
              obtain ⟨rfl, _⟩ : u2 = _ ∧ _ := z2
              obtain ⟨rfl, _⟩ : u3 = _ ∧ _ := z3
              obtain ⟨rfl, _⟩ : u4 = _ ∧ _ := z4
              refine (cPk _ (numR N D / denR N D + 0) 0 (by omega)).mono ?_
              rintro e w' ⟨rfl, hf⟩
              exact ⟨_, rfl, ⟨[_, _], rfl, ⟨rfl, fun _ => trivial⟩, ⟨rfl, fun _ => trivial⟩, trivial⟩, hf⟩ },
        { args := [.one (.atom (.neg (.v 0))), .one (.atom (.sym 9)), .one (.atom (.sym 7)), .one (.atom (.sym 0)), .one (.lit (.int .i64 (1)))], ans := .tup [.one (.atom (.sym 18)), .one (.atom (.sym 19))], ok := by
            intro B ρ w S vs hS hr
            match vs, hr with
            | [u0, u1, u2, u3, u4], ⟨z0, z1, z2, z3, z4, _⟩ =>
              obtain ⟨_, rfl⟩ : _ ∧ u0 = _ := z0
              obtain ⟨rfl, _⟩ : u1 = _ ∧ _ := z1
              obtain ⟨rfl, _⟩ : u2 = _ ∧ _ := z2
              obtain ⟨rfl, _⟩ : u3 = _ ∧ _ := z3
              obtain ⟨rfl, _⟩ : u4 = _ ∧ _ := z4
              refine (cPk _ (numR N D / denR N D + 0) 1 (by omega)).mono ?_
              rintro e w' ⟨rfl, hf⟩
              exact ⟨_, rfl, ⟨[_, _], rfl, ⟨rfl, fun _ => trivial⟩, ⟨rfl, fun _ => trivial⟩, trivial⟩, hf⟩ },
        { args := [.one (.atom (.neg (.v 0))), .one (.atom (.sym 9)), .one (.atom (.sym 7)), .one (.atom (.sym 0)), .one (.lit (.int .i64 (3)))], ans := .tup [.one (.atom (.sym 20)), .one (.atom (.sym 21))], ok := by
            intro B ρ w S vs hS hr
            match vs, hr with
            | [u0, u1, u2, u3, u4], ⟨z0, z1, z2, z3, z4, _⟩ =>
              obtain ⟨_, rfl⟩ : _ ∧ u0 = _ := z0
              obtain ⟨rfl, _⟩ : u1 = _ ∧ _ := z1
              obtain ⟨rfl, _⟩ : u2 = _ ∧ _ := z2
              obtain ⟨rfl, _⟩ : u3 = _ ∧ _ := z3
              obtain ⟨rfl, _⟩ : u4 = _ ∧ _ := z4
              refine (cPk _ (numR N D / denR N D + 0) 3 (by omega)).mono ?_
              rintro e w' ⟨rfl, hf⟩
              exact ⟨_, rfl, ⟨[_, _], rfl, ⟨rfl, fun _ => trivial⟩, ⟨rfl, fun _ => trivial⟩, trivial⟩, hf⟩ },
        { args := [.one (.atom (.neg (.v 0))), .one (.atom (.sym 12)), .one (.atom (.sym 7)), .one (.atom (.sym 0)), .one (.lit (.int .i64 (1)))], ans := .tup [.one (.atom (.sym 22)), .one (.atom (.sym 23))], ok := by
            intro B ρ w S vs hS hr
            match vs, hr with
            | [u0, u1, u2, u3, u4], ⟨z0, z1, z2, z3, z4, _⟩ =>
              obtain ⟨_, rfl⟩ : _ ∧ u0 = _ := z0
              obtain ⟨rfl, _⟩ : u1 = _ ∧ _ := z1
              obtain ⟨rfl, _⟩ : u2 = _ ∧ _ := z2
              obtain ⟨rfl, _⟩ : u3 = _ ∧ _ := z3
              obtain ⟨rfl, _⟩ : u4 = _ ∧ _ := z4
              refine (cPk _ (numR N D / denR N D + 1) 1 (by omega)).mono ?_
              rintro e w' ⟨rfl, hf⟩
              exact ⟨_, rfl, ⟨[_, _], rfl, ⟨rfl, fun _ => trivial⟩, ⟨rfl, fun _ => trivial⟩, trivial⟩, hf⟩ },
        { args := [.one (.atom (.neg (.v 0))), .one (.atom (.sym 12)), .one (.atom (.sym 7)), .one (.atom (.sym 0)), .one (.lit (.int .i64 (3)))], ans := .tup [.one (.atom (.sym 24)), .one (.atom (.sym 25))], ok := by
            intro B ρ w S vs hS hr
            match vs, hr with
            | [u0, u1, u2, u3, u4], ⟨z0, z1, z2, z3, z4, _⟩ =>
              obtain ⟨_, rfl⟩ : _ ∧ u0 = _ := z0
              obtain ⟨rfl, _⟩ : u1 = _ ∧ _ := z1
              obtain ⟨rfl, _⟩ : u2 = _ ∧ _ := z2
              obtain ⟨rfl, _⟩ : u3 = _ ∧ _ := z3
              obtain ⟨rfl, _⟩ : u4 = _ ∧ _ := z4
              refine (cPk _ (numR N D / denR N D + 1) 3 (by omega)).mono ?_
              rintro e w' ⟨rfl, hf⟩
              exact ⟨_, rfl, ⟨[_, _], rfl, ⟨rfl, fun _ => trivial⟩, ⟨rfl, fun _ => trivial⟩, trivial⟩, hf⟩ }]], rfl⟩
    (opH_le (bigHook_le _ _) (opH_le (symHook_le _ _ _) (tabHook_le _ _)))
    (opH_ok (bigHook_ok _) (opH_ok (symHook_ok _ (by
        intro d j w u hd hu
        unfold of3fN at hd
        split at hd
        · obtain rfl := Option.some.inj hd
          have hu' : Num w u _ := hu.2
          obtain ⟨no, nc, rfl, _⟩ := hu'.parts
          exact ⟨_, _, _, rfl, rfl, fun _ => trivial⟩
        · cases hd) (fun h => by cases h)) (tabHook_ok _ (all_cons (BOk.mk rfl rfl rfl (fun _ _ _ => trivial) rfl rfl (bo_sub (by rw [← hp0]; exact wr64 (by omega) (by omega)))) (all_cons (BOk.mk rfl rfl rfl (fun _ _ _ => trivial) rfl rfl (bo_sub (by rw [Int.zero_sub]; exact wr64 (by omega) (by omega)))) (all_cons (BOk.mk rfl rfl rfl (fun _ _ _ => trivial) rfl rfl (bo_lss hcl)) (all_cons (BOk.mk rfl rfl rfl (fun _ _ _ => trivial) rfl rfl (bo_sub (wr64 (by omega) (by omega)))) (all_cons (BOk.mk rfl rfl rfl (fun _ _ _ => trivial) rfl rfl (bo_sub (by rw [wr64 (by omega) (by omega)]; omega))) (all_cons (BOk.mk rfl rfl rfl (fun _ _ _ => trivial) rfl rfl (bo_sub (by rw [Int.zero_sub]; exact wr64 (by omega) (by omega)))) (all_cons (BOk.mk rfl rfl rfl (fun _ _ _ => trivial) rfl rfl (bo_gtr hlen)) (all_cons (BOk.mk rfl rfl rfl (fun _ _ _ => trivial) rfl rfl (bo_lss (by rw [← hsub, hpex]))) (all_cons (BOk.mk rfl rfl rfl (fun _ _ _ => trivial) rfl rfl (bo_rem2 _ (by omega))) (all_cons (BOk.mk rfl rfl rfl (fun _ _ _ => trivial) rfl rfl (bo_eql (by congr 1; exact propext ⟨fun h => by omega, fun h => by omega⟩))) (all_cons (BOk.mk rfl rfl rfl (fun _ _ _ => trivial) rfl rfl (bo_add hv1)) all_nil))))))))))) (all_cons ⟨rfl, rfl, rfl, fun _ _ _ => trivial, _, _, rfl, rfl, (by rfl)⟩ all_nil))))
  refine (told_call (M := (DomQ true ν σ (fun _ => none))) (cx := ⟨Tryd.prog, true, t.get, orcD (of3fD r0 sub upb), (opH (bigHook Tryd.prog true) (opH (symHook Tryd.prog of3fN (fun _ _ _ => none)) (tabHook (of3fL r0 sub upb) of3fM)))⟩) (xs := [avQ (.v 0), .one (.atom (.sym 0))]) (vs := [v, .int .i64 m]) Tryd.checked.mixed hcx (fun hg => by cases hg) ⟨avQ_rel hv, ⟨rfl, fun _ => trivial⟩, trivial⟩ he).mono ?_
  rintro e w' ⟨v, ρ', rfl, hv, hbel⟩
  cases r0 <;> cases sub <;> cases upb
  all_goals
    obtain ⟨us, rfl, hu⟩ := hv
    match us, hu with
    | [c0, c1], ⟨r0, r1, _⟩ =>
      obtain ⟨rfl, _⟩ : c0 = _ ∧ _ := r0
      obtain ⟨rfl, _⟩ : c1 = _ ∧ _ := r1
      exact ⟨rfl, hbel⟩

theorem of3_any {w : World} {v : Value} {q : Rat} (m : Int) (hv : RV w v q) (hq : nr q ≤ 150) :
    Calls Tryd.prog 24 #[v, .int .i64 m] w fun e w' => e = .returned (.tuple #[.int .u64 ((ofR m (negQ q) q.num.natAbs q.den).1 : Nat), .int .i64 ((ofR m (negQ q) q.num.natAbs q.den).2 : Nat)]) ∧ Fwd w w' := by
  by_cases h0 : q = 0
  · have e : ofR m (negQ q) q.num.natAbs q.den = (0, 0) := by unfold ofR; rw [if_pos ((natAbs_zero_iff q).2 h0)]
    rw [e]
    exact of3z_tab m hv h0
  · cases hlt : decide (q.num.natAbs * 2 ^ (-((blen q.num.natAbs : Int) - (blen q.den : Int))).toNat < q.den * 2 ^ ((blen q.num.natAbs : Int) - (blen q.den : Int)).toNat) with
    | true => exact of3t_tab m hv hq h0 hlt rfl rfl rfl
    | false => exact of3f_tab m hv hq h0 hlt rfl rfl rfl
end Go.Proofs.YtcfhajnboamnnaaDoor
