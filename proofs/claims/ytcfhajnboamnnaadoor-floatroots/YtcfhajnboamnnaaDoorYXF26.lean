/- sfloat's Of: a rational number, rounded. -/
/- Oracles for the reader: floats that are written out. -/
import Derived.Test.YtcfhajnboamnnaaDoorXF25
import Derived.Test.YtcfhajnboamnnaaDoorYXEVS
import Derived.Test.YtcfhajnboamnnaaDoorKJ
import Derived.Test.YtcfhajnboamnnaaDoorYXFM
import Derived.Test.YtcfhajnboamnnaaDoorYXFT
namespace Go.Proofs.YtcfhajnboamnnaaDoor
open Go.RowKit
set_option linter.unusedVariables false
set_option linter.unusedSimpArgs false

theorem ratio_any {w : World} {v : Value} {s : Bool} {N D : Nat} (h : RW w v s N D) (bN : nl N ≤ 10000) (bD : nl D ≤ 10000) (hD0 : D ≠ 0) :
    Calls Tryd.prog 51 #[v] w fun e w' => ∃ r, e = .returned r ∧ Fwd w w' ∧ VT r (ratV s N D) := by
  obtain ⟨vN, vD, rfl, hN, hD⟩ := h
  by_cases c : rtS N D = 0
  · exact ratio_zero hN hD bN bD hD0 c
  · by_cases d : 0 < rtS N D
    · exact ratio_up (k := (rtS N D).toNat) hN hD bN bD hD0 (by omega) (by omega)
    · exact ratio_down (k := (-(rtS N D)).toNat) hN hD bN bD hD0 (by omega) (by omega)

/-- A number, rounded. -/
def ofQ (m : Int) (s : Bool) (N D : Nat) : Nat × Nat := rdV m (ratV s N D)

theorem ratV_ex (s : Bool) {N D : Nat} (bN : nl N ≤ 10000) (bD : nl D ≤ 10000) : -1000000 ≤ (ratV s N D).2.2.2 ∧ (ratV s N D).2.2.2 ≤ 1000000 := by
  have b1 := blen_nl N
  have b2 := blen_nl D
  show -1000000 ≤ -(rtS N D) - 64 ∧ -(rtS N D) - 64 ≤ 1000000
  unfold rtS
  omega

set_option maxHeartbeats 8000000 in
set_option maxRecDepth 100000 in
theorem ofQ_any {w : World} {v : Value} {s : Bool} {N D : Nat} (hR : Ru w) (m : Int) (h : RW w v s N D) (bN : nl N ≤ 10000) (bD : nl D ≤ 10000) (hD0 : D ≠ 0) :
    Calls Tryd.prog 16 #[v, .int .i64 m] w fun e w' => e = .returned (.tuple #[.int .u64 ((ofQ m s N D).1 : Nat), .int .i64 ((ofQ m s N D).2 : Nat)]) ∧ Fwd w w' := by
  have c1 := fun (w' : World) (h : Fwd w w') => ruleOf_any m (hR.fwd h)
  have c2 := fun (w' : World) (g : Fwd w w') => ratio_any (h.fwd g) bN bD hD0
  have hex := ratV_ex s bN bD
  have HZ : Hid (ofQ m s N D = rdV m (ratV s N D)) := hid rfl
  generalize ratV s N D = V at *
  obtain ⟨s', en', n', x'⟩ := V
  have c3 := fun (w' : World) (u : Value) (hu : VV u s' en' n' x') => round_any (w := w') m hu hex.1 hex.2
  rw [← HZ.out] at c3
  clear HZ hex hR
  generalize ofQ m s N D = Z at *
  obtain ⟨z1, z2⟩ := Z
  obtain ⟨xo, xc, yo, yc, rfl, x1, x2, x3, x4, -, -⟩ := RW.open h
  clear h
  generalize ruleV m = rv at *
  have kA : BlkV (w.alloc (.cells #[.bool s, .slice xo (nl N) xc, .slice yo (nl D) yc] 24)) (w.heap.size) 24 [.bool s, .slice xo (nl N) xc, .slice yo (nl D) yc] := BlkV.made' w (w.heap.size) (by simp) 24 [.bool s, .slice xo (nl N) xc, .slice yo (nl D) yc]
  have hF : Fwd w (w.alloc (.cells #[.bool s, .slice xo (nl N) xc, .slice yo (nl D) yc] 24)) := (Fwd.refl w).alloc _
  go_enter Tryd.func16, Tryd.ntmps16
  have ac0 := BlkV.cell kA 0 rfl
  have az0 := BlkV.frozen kA 0
  have ac1 := BlkV.cell kA 1 rfl
  have az1 := BlkV.frozen kA 1
  have ac2 := BlkV.cell kA 2 rfl
  have az2 := BlkV.frozen kA 2
  go_wp2_with fail
  replace kA := kA.drew
  replace hF := hF.drew
  clear ac0 az0 ac1 az1 ac2 az2
  have ac0 := BlkV.cell kA 0 rfl
  have az0 := BlkV.frozen kA 0
  have ac1 := BlkV.cell kA 1 rfl
  have az1 := BlkV.frozen kA 1
  have ac2 := BlkV.cell kA 2 rfl
  have az2 := BlkV.frozen kA 2
  refine wp_region_held_drew (S := fun w' => w'.cell? ⟨w.heap.size, 0, none⟩ = some (.bool s) ∧ w'.cell? ⟨w.heap.size, 1, none⟩ = some (.slice xo (nl N) xc) ∧ w'.cell? ⟨w.heap.size, 2, none⟩ = some (.slice yo (nl D) yc)) (by kernel_rfl) ⟨by with_reducible assumption, by with_reducible assumption, by with_reducible assumption⟩ (fun hHeld => ?_)
  refine wpAnyH_take (i := 0) (oi := ?oi1_0) (v := ?vv1_0) ?hi1_0 (by kernel_rfl) (by kernel_rfl) (by kernel_rfl) ?hq1_0 ?hy1_0 hHeld ?rest1_0
  case hi1_0 => (simp only [List.getElem?_toArray, List.getElem?_cons_succ, List.getElem?_cons_zero]; rfl)
  case hq1_0 => exact fun _ _ _ h => h
  case hy1_0 =>
    refine Or.inl ⟨by rfl, ?_⟩
    intro wS hSw
    try dsimp only at hSw
    obtain ⟨q0, q1, q2⟩ := hSw
    go_simp
    try with_reducible rfl
  simp only [Act.put, List.setIfInBounds_toArray, List.set_cons_zero, List.set_cons_succ]
  refine wpAnyH_take (i := 2) (oi := ?oi2_2) (v := ?vv2_2) ?hi2_2 (by kernel_rfl) (by kernel_rfl) (by kernel_rfl) ?hq2_2 ?hy2_2 hHeld ?rest2_2
  case hi2_2 => (simp only [List.getElem?_toArray, List.getElem?_cons_succ, List.getElem?_cons_zero]; rfl)
  case hq2_2 => exact fun _ _ _ h => h
  case hy2_2 =>
    refine Or.inl ⟨by rfl, ?_⟩
    intro wS hSw
    try dsimp only at hSw
    obtain ⟨q0, q1, q2⟩ := hSw
    go_simp
    try with_reducible rfl
  simp only [Act.put, List.setIfInBounds_toArray, List.set_cons_zero, List.set_cons_succ]
  refine wpAnyH_ready (rs := [1]) (by kernel_rfl) (by simp) ?_
  refine AllReadyH.cons rfl (fun K hK => ?_) AllReadyH.nil
  go_simp
  refine (c1 _ hF).mono ?_
  rintro e w1 ⟨rfl, hf1⟩
  replace kA := kA.fwd hf1
  replace hF := hF.trans hf1
  clear hf1
  clear ac0 az0 ac1 az1 ac2 az2
  have ac0 := BlkV.cell kA 0 rfl
  have az0 := BlkV.frozen kA 0
  have ac1 := BlkV.cell kA 1 rfl
  have az1 := BlkV.frozen kA 1
  have ac2 := BlkV.cell kA 2 rfl
  have az2 := BlkV.frozen kA 2
  go_wp2_with fail
  clear hHeld
  refine hK.out _ _ ⟨by with_reducible assumption, by with_reducible assumption, by with_reducible assumption⟩ (fun hHeld => ?_)
  clear hK K
  try simp only [Act.put, List.setIfInBounds_toArray, List.set_cons_zero, List.set_cons_succ]
  refine wpAnyH_ready (rs := [3]) (by kernel_rfl) (by simp) ?_
  refine AllReadyH.cons rfl (fun K hK => ?_) AllReadyH.nil
  go_simp
  refine (c2 _ hF).mono ?_
  rintro e w2 ⟨r, rfl, hf2, hV⟩
  replace kA := kA.fwd hf2
  replace hF := hF.trans hf2
  clear hf2
  clear ac0 az0 ac1 az1 ac2 az2
  have ac0 := BlkV.cell kA 0 rfl
  have az0 := BlkV.frozen kA 0
  have ac1 := BlkV.cell kA 1 rfl
  have az1 := BlkV.frozen kA 1
  have ac2 := BlkV.cell kA 2 rfl
  have az2 := BlkV.frozen kA 2
  go_wp2_with fail
  clear hHeld
  refine hK.out _ _ ⟨by with_reducible assumption, by with_reducible assumption, by with_reducible assumption⟩ (fun hHeld => ?_)
  clear hK K
  try simp only [Act.put, List.setIfInBounds_toArray, List.set_cons_zero, List.set_cons_succ]
  refine wpAnyH_ready (rs := [4]) (by kernel_rfl) (by simp) ?_
  refine AllReadyH.cons rfl (fun K hK => ?_) AllReadyH.nil
  go_simp
  refine (c3 _ r hV).mono ?_
  rintro e w3 ⟨rfl, hf3⟩
  replace kA := kA.fwd hf3
  replace hF := hF.trans hf3
  clear hf3
  clear ac0 az0 ac1 az1 ac2 az2
  have ac0 := BlkV.cell kA 0 rfl
  have az0 := BlkV.frozen kA 0
  have ac1 := BlkV.cell kA 1 rfl
  have az1 := BlkV.frozen kA 1
  have ac2 := BlkV.cell kA 2 rfl
  have az2 := BlkV.frozen kA 2
  go_wp2_with fail
  clear hHeld
  refine hK.out _ _ ⟨by with_reducible assumption, by with_reducible assumption, by with_reducible assumption⟩ (fun hHeld => ?_)
  clear hK K
  try simp only [Act.put, List.setIfInBounds_toArray, List.set_cons_zero, List.set_cons_succ]
  refine wpAnyH_take (i := 5) (oi := ?oi3_5) (v := ?vv3_5) ?hi3_5 (by kernel_rfl) (by kernel_rfl) (by kernel_rfl) ?hq3_5 ?hy3_5 hHeld ?rest3_5
  case hi3_5 => (simp only [List.getElem?_toArray, List.getElem?_cons_succ, List.getElem?_cons_zero]; rfl)
  case hq3_5 => exact fun _ _ _ h => h
  case hy3_5 =>
    refine Or.inl ⟨by rfl, ?_⟩
    intro wS hSw
    try dsimp only at hSw
    obtain ⟨q0, q1, q2⟩ := hSw
    go_simp
    try with_reducible rfl
  simp only [Act.put, List.setIfInBounds_toArray, List.set_cons_zero, List.set_cons_succ]
  refine wpAnyH_take (i := 6) (oi := ?oi4_6) (v := ?vv4_6) ?hi4_6 (by kernel_rfl) (by kernel_rfl) (by kernel_rfl) ?hq4_6 ?hy4_6 hHeld ?rest4_6
  case hi4_6 => (simp only [List.getElem?_toArray, List.getElem?_cons_succ, List.getElem?_cons_zero]; rfl)
  case hq4_6 => exact fun _ _ _ h => h
  case hy4_6 =>
    refine Or.inl ⟨by rfl, ?_⟩
    intro wS hSw
    try dsimp only at hSw
    obtain ⟨q0, q1, q2⟩ := hSw
    go_simp
    try with_reducible rfl
  simp only [Act.put, List.setIfInBounds_toArray, List.set_cons_zero, List.set_cons_succ]
  refine wpAnyH_take (i := 7) (oi := ?oi5_7) (v := ?vv5_7) ?hi5_7 (by kernel_rfl) (by kernel_rfl) (by kernel_rfl) ?hq5_7 ?hy5_7 hHeld ?rest5_7
  case hi5_7 => (simp only [List.getElem?_toArray, List.getElem?_cons_succ, List.getElem?_cons_zero]; rfl)
  case hq5_7 => exact fun _ _ _ h => h
  case hy5_7 =>
    refine Or.inl ⟨by rfl, ?_⟩
    intro wS hSw
    try dsimp only at hSw
    obtain ⟨q0, q1, q2⟩ := hSw
    go_simp
    try with_reducible rfl
  simp only [Act.put, List.setIfInBounds_toArray, List.set_cons_zero, List.set_cons_succ]
  refine wpAnyH_take (i := 8) (oi := ?oi6_8) (v := ?vv6_8) ?hi6_8 (by kernel_rfl) (by kernel_rfl) (by kernel_rfl) ?hq6_8 ?hy6_8 hHeld ?rest6_8
  case hi6_8 => (simp only [List.getElem?_toArray, List.getElem?_cons_succ, List.getElem?_cons_zero]; rfl)
  case hq6_8 => exact fun _ _ _ h => h
  case hy6_8 =>
    refine Or.inl ⟨by rfl, ?_⟩
    intro wS hSw
    try dsimp only at hSw
    obtain ⟨q0, q1, q2⟩ := hSw
    go_simp
    try with_reducible rfl
  simp only [Act.put, List.setIfInBounds_toArray, List.set_cons_zero, List.set_cons_succ]
  refine wpAnyH_done (by kernel_rfl) ?_ _
  go_wp2
  go_ret2
  exact ⟨ret_pair rfl rfl, hF⟩
end Go.Proofs.YtcfhajnboamnnaaDoor

namespace Go.Proofs.YtcfhajnboamnnaaDoor
open Go.RowKit Go.Ev
set_option linter.unusedVariables false
set_option linter.unusedSimpArgs false

/-- What stands for good: the table of rules. -/
def ruG : Nat → Option (List Value) := fun g => bif Nat.beq g 0 then some rulesL else none
theorem ruG_at : ruG 0 = some rulesL := rfl
theorem ruG_ok {w : World} (hR : Ru w) {g : Nat} {us : List Value} (hg : ruG g = some us) : g < w.heap.size ∧ ∀ j v, us[j]? = some v → w.cell? ⟨g, j, none⟩ = some v := by
  unfold ruG at hg
  rw [beq_nat, cond_decide] at hg
  split at hg
  · rename_i e
    subst e
    obtain rfl := Option.some.inj hg
    exact ⟨World.block_lt_of_cell? w _ (hR 0 _ rfl), hR⟩
  · cases hg
theorem ru_of {st : Bool} {ν : Nat → Rat} {σ : SymD} {B : Nat} {ρ : Env} {w : World} {S : Tr Bk} (hS : SRel (DomQ st ν σ ruG) B ρ w S) : Ru w :=
  fun i v hv => (hS.glob (g := 0) (vs := rulesL) ruG_at).2.2 i v hv

section
variable {st : Bool} {ν : Nat → Rat} {σ : SymD}

def ansF3 (g : Int → Nat → Nat → Nat × Nat) : Ans := fun args S => match args with
  | [.one (.lit (.int .u64 (.ofNat a))), .one (.lit (.int .u64 (.ofNat b))), .one (.lit (.int .i64 m))] =>
    bif Nat.ble (a + 1) 18446744073709551616 && Nat.ble (b + 1) 18446744073709551616 then
      match g m a b with
      | (x, y) => some (.tup [.one (.lit (.int .u64 (.ofNat x))), .one (.lit (.int .i64 (.ofNat y)))])
    else none
  | _ => none

/-- Of two floats and a mode. -/
def orcF3 (f : FuncId) (g : Int → Nat → Nat → Nat × Nat) (h : ∀ {w : World}, Ru w → ∀ (m : Int) (a b : Nat), a < 18446744073709551616 → b < 18446744073709551616 →
    Calls Tryd.prog f #[.int .u64 a, .int .u64 b, .int .i64 m] w fun e w' => e = .returned (.tuple #[.int .u64 ((g m a b).1 : Nat), .int .i64 ((g m a b).2 : Nat)]) ∧ Fwd w w') : OP st ν σ ruG where
  f := f
  ans := ansF3 g
  ok := by
    intro args S av ha B ρ w vs hS hr
    unfold ansF3 at ha
    split at ha
    · rename_i a b m
      cases hb : Nat.ble (a + 1) 18446744073709551616 && Nat.ble (b + 1) 18446744073709551616 with
      | false => rw [hb] at ha; cases ha
      | true =>
        rw [hb] at ha
        simp only [cond_true, Option.some.injEq] at ha
        subst ha
        simp only [Bool.and_eq_true] at hb
        match vs, hr with
        | [u, v, x], ⟨r1, r2, r3, _⟩ =>
          obtain ⟨rfl, _⟩ : u = _ ∧ _ := r1
          obtain ⟨rfl, _⟩ : v = _ ∧ _ := r2
          obtain ⟨rfl, _⟩ : x = _ ∧ _ := r3
          refine (h (ru_of hS) m a b (Nat.le_of_ble_eq_true hb.1) (Nat.le_of_ble_eq_true hb.2)).mono ?_
          rintro e w' ⟨rfl, hf⟩
          exact ⟨_, rfl, ⟨[.int .u64 ((g m a b).1 : Nat), .int .i64 ((g m a b).2 : Nat)], rfl, ⟨rfl, rfl⟩, ⟨rfl, rfl⟩, trivial⟩, hf⟩
    · cases ha

def ansC2 (g : Nat → Nat → Int × Bool) : Ans := fun args S => match args with
  | [.one (.lit (.int .u64 (.ofNat a))), .one (.lit (.int .u64 (.ofNat b)))] =>
    bif Nat.ble (a + 1) 18446744073709551616 && Nat.ble (b + 1) 18446744073709551616 then
      match g a b with
      | (x, y) => some (.tup [.one (.lit (.int .i64 x)), .one (.lit (.bool y))])
    else none
  | _ => none
def orcC2 (f : FuncId) (g : Nat → Nat → Int × Bool) (h : ∀ {w : World} (a b : Nat), a < 18446744073709551616 → b < 18446744073709551616 →
    Calls Tryd.prog f #[.int .u64 a, .int .u64 b] w fun e w' => e = .returned (.tuple #[.int .i64 (g a b).1, .bool (g a b).2]) ∧ w' = w) : OP st ν σ ruG where
  f := f
  ans := ansC2 g
  ok := by
    intro args S av ha B ρ w vs hS hr
    unfold ansC2 at ha
    split at ha
    · rename_i a b
      cases hb : Nat.ble (a + 1) 18446744073709551616 && Nat.ble (b + 1) 18446744073709551616 with
      | false => rw [hb] at ha; cases ha
      | true =>
        rw [hb] at ha
        simp only [cond_true, Option.some.injEq] at ha
        subst ha
        simp only [Bool.and_eq_true] at hb
        match vs, hr with
        | [u, v], ⟨r1, r2, _⟩ =>
          obtain ⟨rfl, _⟩ : u = _ ∧ _ := r1
          obtain ⟨rfl, _⟩ : v = _ ∧ _ := r2
          refine (h a b (Nat.le_of_ble_eq_true hb.1) (Nat.le_of_ble_eq_true hb.2)).mono ?_
          rintro e w' ⟨rfl, rfl⟩
          exact ⟨_, rfl, ⟨[.int .i64 (g a b).1, .bool (g a b).2], rfl, ⟨rfl, rfl⟩, ⟨rfl, rfl⟩, trivial⟩, Below.refl _ _⟩
    · cases ha

def ansOfF (g : Int → Bool → Nat → Nat → Nat × Nat) : Ans := fun args S => match args with
  | [x, .one (.lit (.int .i64 m))] => match reA S x with
    | some (.c n d) => bif okQ (.c n d) then
        match g m (ltI n 0) (n.natAbs / Nat.gcd n.natAbs d) (d / Nat.gcd n.natAbs d) with
        | (x, y) => some (.tup [.one (.lit (.int .u64 (.ofNat x))), .one (.lit (.int .i64 (.ofNat y)))])
      else none
    | _ => none
  | _ => none
def orcOfF (f : FuncId) (g : Int → Bool → Nat → Nat → Nat × Nat) (h : ∀ {w : World} {v : Value} {s : Bool} {N D : Nat}, Ru w → ∀ m : Int, RW w v s N D → nl N ≤ 10000 → nl D ≤ 10000 → D ≠ 0 →
    Calls Tryd.prog f #[v, .int .i64 m] w fun e w' => e = .returned (.tuple #[.int .u64 ((g m s N D).1 : Nat), .int .i64 ((g m s N D).2 : Nat)]) ∧ Fwd w w') (hν : Sized ν) : OP st ν σ ruG where
  f := f
  ans := ansOfF g
  ok := by
    intro args S av ha B ρ w vs hS hr
    unfold ansOfF at ha
    split at ha
    · rename_i x m
      split at ha
      · rename_i n d hx
        cases hb : okQ (.c n d) with
        | false => rw [hb] at ha; cases ha
        | true =>
          rw [hb] at ha
          simp only [cond_true, Option.some.injEq] at ha
          subst ha
          match vs, hr with
          | [u, v], ⟨r1, r2, _⟩ =>
            obtain ⟨rfl, _⟩ : v = _ ∧ _ := r2
            have hq := reA_ok hS hx r1
            have hd := okQ_den hb
            have hn := okQ_nr hν hb
            have e1 : negQ (mkRat n d) = ltI n 0 := by
              rw [negQ_lt, ltI_eq, Bool.eq_iff_iff, decide_eq_true_eq, decide_eq_true_eq]
              exact mkRat_neg_iff hd
            have e2 : (mkRat n d).num.natAbs = n.natAbs / Nat.gcd n.natAbs d := by rw [mkRat_mkQ, mkQ_abs hd]
            have e3 : (mkRat n d).den = d / Nat.gcd n.natAbs d := by rw [mkRat_mkQ, mkQ_den hd]
            have hw : RW w u (negQ (mkRat n d)) (mkRat n d).num.natAbs (mkRat n d).den := hq
            refine (h (ru_of hS) m hw (Nat.le_trans (nr_num _) (Nat.le_trans hn (by omega))) (Nat.le_trans (nr_den _) (Nat.le_trans hn (by omega))) (mkRat n d).den_nz).mono ?_
            rintro e w' ⟨rfl, hf⟩
            rw [e1, e2, e3]
            exact ⟨_, rfl, ⟨[.int .u64 _, .int .i64 _], rfl, ⟨rfl, rfl⟩, ⟨rfl, rfl⟩, trivial⟩, hf⟩
      · cases ha
    · cases ha
end

variable {st : Bool} {ν : Nat → Rat} {σ : SymD}

def oAddF : OP st ν σ ruG := orcF3 26 addF addF_any

def oSubF : OP st ν σ ruG := orcF3 28 (fun m f h => addF m f (flipF h)) subF_any

def oMulF : OP st ν σ ruG := orcF3 30 mulF mulF_any

def oDivF : OP st ν σ ruG := orcF3 32 divG divG_any

def oOfF (hν : Sized ν) : OP st ν σ ruG := orcOfF 16 ofQ ofQ_any hν

end Go.Proofs.YtcfhajnboamnnaaDoor
