/- What is behind the last of a slice of unknown room: an empty slice of no known place. -/
/- within, of several chapters' laws: what is left. -/
/- The second telling's small numbers, and rows of them (laws of chapter 2). -/
import Derived.Test.YtcccejhkblnonaaGreatYXEVW
import Derived.Test.YtcccejhkblnonaaGreatKD
import Derived.Test.YtcccejhkblnonaaGreatKI
import Derived.Test.YtcccejhkblnonaaGreatYXN2
import Derived.Test.YtcccejhkblnonaaGreatXEV7
namespace Go.Proofs.YtcccejhkblnonaaGreat
open Go.RowKit Go.Ev
set_option linter.unusedVariables false
set_option linter.unusedSimpArgs false

def isAny : Cap → Bool
  | .known _ => false
  | _ => true
def isNone' {α : Type} : Option α → Bool
  | none => true
  | some _ => false

def empHook (P : Program) : OpF := fun ev S n o => match o.op with
  | .call c => match c.callee, c.args.toList, c.argTypes.toList with
    | .builtin .len, [x], [t] => match ev x, P.underlying t with
      | some (.v (.one (.atom .emp))), some (.slice _) => some (.v (.one (.lit (.int .i64 0))), [], n)
      | _, _ => none
    | _, _, _ => none
  | .slice t x (some l) none none => match ev x, P.underlying t with
    | some (.v (.one (.slc b off (len + 1) c))), some (.slice e) => match natOf (len + 1) (len + 1) (ev l), P.info? e with
      | some _, some _ => some (.v (.one (.atom .emp)), [], n)
      | _, _ => none
    | _, _ => none
  | _ => none
theorem empHook_le (P : Program) : OpLe (empHook P) := by
  intro S n n' ev o av dl h
  unfold empHook at h
  repeat' split at h
  all_goals first
    | (cases h; done)
    | (simp only [Option.some.injEq, Prod.mk.injEq] at h; obtain ⟨_, _, rfl⟩ := h; exact Nat.le_refl _)
theorem empHook_ok {st : Bool} {ν : Nat → Rat} {σ : SymD} {γ : Nat → Option (List Value)} {B : Nat} (P : Program) : OpOK (DomQ st ν σ γ) B P (empHook P) := by
  intro ρ w S n n' ev a o av dl he hS hB hk hf h next Q hn
  unfold empHook at h
  split at h
  · rename_i c hop
    split at h
    · rename_i x t hcc ha ht
      split at h
      · rename_i e hx hte
        simp only [Option.some.injEq, Prod.mk.injEq] at h
        obtain ⟨rfl, rfl, rfl⟩ := h
        obtain ⟨ba, cp, hu, _⟩ : ∃ b c, a.eval x = .slice (some b) 0 c ∧ c ≤ maxLen := he _ _ hx
        obtain ⟨callee, args, argTypes⟩ := c
        simp only at hcc ha ht
        subst hcc
        obtain rfl : args = #[x] := by cases args; simp at ha; simp [ha]
        obtain rfl : argTypes = #[t] := by cases argTypes; simp at ht; simp [ht]
        have hlr : (Builtin.len_ #[t] o.type #[a.eval x]).run P w = .ok (.int .i64 0) w := by
          rw [hu]
          simp [Builtin.len_, run_underlying hte, goInt]
        have hrun : (execOp a.eval o).run P w = .ok (.value (.int .i64 0)) w := by
          unfold execOp
          rw [hop]
          simp only [resolve, Sem.run_bind, Sem.run_pure, Result.andThen_ok, invoke, builtin]
          simp [hlr]
        unfold Oper.wp
        rw [hrun]
        exact hn _ w ρ ⟨rfl, rfl⟩ (Tn.refl hS n hk)
      · cases h
    · cases h
  · rename_i t x l hop
    split at h
    · rename_i b off len c e hx hte
      split at h
      · rename_i j i hj hi
        simp only [Option.some.injEq, Prod.mk.injEq] at h
        obtain ⟨rfl, rfl, rfl⟩ := h
        obtain ⟨p, k, hp, hu, hlk, hkm, hc⟩ := he _ _ hx
        obtain ⟨kd, h1, h2, h3⟩ := natOf_ok he hj
        obtain rfl : j = len + 1 := by omega
        have ht : P.underlying t = some (.slice (P.elem t)) := by rw [elem_slice hte]; exact hte
        have hsz : (sizeOf (P.elem t)).run P w = .ok i.size w := by rw [elem_slice hte]; exact sizeOf_run hi w
        have hs : (Instr.sliceAt t (a.eval x) (some (a.eval l)) none none).run P w = .ok (sliced (some ⟨p, off, none⟩) (len + 1) (len + 1) k i.size) w := by
          rw [hu, h1, run_sliceAt_slice w t _ _ _ _ ht, run_slice_l w t _ _ _ ht kd _ (by omega) (by omega), hsz]
          rfl
        have hrun : (execOp a.eval o).run P w = .ok (.value (sliced (some ⟨p, off, none⟩) (len + 1) (len + 1) k i.size)) w := by
          unfold execOp
          rw [hop]
          exact wrapV hs
        unfold Oper.wp
        rw [hrun]
        refine hn _ w ρ ?_ (Tn.refl hS n hk)
        show ∃ a c, sliced (some ⟨p, off, none⟩) (len + 1) (len + 1) k i.size = .slice (some a) 0 c ∧ c ≤ maxLen
        simp only [sliced, Nat.sub_self]
        split
        · exact ⟨_, _, rfl, by omega⟩
        · exact ⟨_, _, rfl, by omega⟩
      · cases h
    · cases h
  · cases h
end Go.Proofs.YtcccejhkblnonaaGreat

namespace Go.Proofs.YtcccejhkblnonaaGreat
open Go.RowKit
set_option linter.unusedVariables false
set_option linter.unusedSimpArgs false

set_option maxHeartbeats 1000000 in
/-- within: what is left. -/
theorem within_l2 (w : World) (a : Int) (n : Nat) (hn : 0 < n) (hn2 : n ≤ 1000000000) (ha1 : -9223372036854775808 ≤ a) (ha2 : a ≤ 9223372036854775807) :
    Calls Tryz.prog 74 #[.int .i64 a, .int .i64 n] w fun e w' => e = .returned (.int .i64 (a % n)) ∧ w = w' := by
  by_cases h0 : 0 ≤ a
  · have h1 : a % n < n := Int.emod_lt_of_pos _ (by omega)
    have h2 : 0 ≤ a % n := Int.emod_nonneg _ (by omega)
    have hnz : (n : Int) ≠ 0 := by omega
    go_enter Tryz.func74, Tryz.ntmps74
    go_wp2
    go_ret
    exact ⟨rfl, rfl⟩
  · have hb : ∃ b : Int, a = -b ∧ 0 < b := ⟨-a, by omega, by omega⟩
    obtain ⟨b, hb, hb0⟩ := hb
    have h3 : a.tmod n = -(b % n) := by rw [hb, Int.neg_tmod, Int.tmod_eq_emod_of_nonneg (by omega)]
    have h1 : b % n < n := Int.emod_lt_of_pos _ (by omega)
    have h2 : 0 ≤ b % n := Int.emod_nonneg _ (by omega)
    have hnz : (n : Int) ≠ 0 := by omega
    have h5 : a % n = if b % n = 0 then 0 else n - b % n := by
      rw [hb]
      split
      · rename_i h; exact Int.emod_eq_zero_of_dvd ((Int.dvd_neg).2 (Int.dvd_of_emod_eq_zero h))
      · rename_i h
        rw [Int.neg_emod, if_neg (fun hd => h (Int.emod_eq_zero_of_dvd hd))]
        simp
    obtain ⟨t, ht⟩ : ∃ t, t = b % n := ⟨_, rfl⟩
    obtain ⟨r, hr⟩ : ∃ r, r = a % n := ⟨_, rfl⟩
    rw [← hr, ← ht] at h5
    rw [← hr]
    rw [← ht] at h1 h2 h3
    clear ht hb hr
    by_cases ht0 : t = 0
    · have h4 : ¬ (-t < 0) := by omega
      rw [if_pos ht0] at h5
      subst h5
      have HT := hid ht0
      subst ht0
      simp only [Int.neg_zero] at h3
      go_enter Tryz.func74, Tryz.ntmps74
      go_wp2
      go_ret
      exact ⟨rfl, rfl⟩
    · have h4 : -t < 0 := by omega
      rw [if_neg ht0] at h5
      subst h5
      go_enter Tryz.func74, Tryz.ntmps74
      go_wp2
      go_ret
      refine ⟨?_, rfl⟩
      have e : -t + (n : Int) = n - t := by omega
      simp only [e]
      rfl

set_option maxHeartbeats 1000000 in
/-- within: what is left. -/
theorem within_l5 (w : World) (a : Int) (n : Nat) (hn : 0 < n) (hn2 : n ≤ 1000000000) (ha1 : -9223372036854775808 ≤ a) (ha2 : a ≤ 9223372036854775807) :
    Calls Tryz.prog 16 #[.int .i64 a, .int .i64 n] w fun e w' => e = .returned (.int .i64 (a % n)) ∧ w = w' := by
  by_cases h0 : 0 ≤ a
  · have h1 : a % n < n := Int.emod_lt_of_pos _ (by omega)
    have h2 : 0 ≤ a % n := Int.emod_nonneg _ (by omega)
    have hnz : (n : Int) ≠ 0 := by omega
    go_enter Tryz.func16, Tryz.ntmps16
    go_wp2
    go_ret
    exact ⟨rfl, rfl⟩
  · have hb : ∃ b : Int, a = -b ∧ 0 < b := ⟨-a, by omega, by omega⟩
    obtain ⟨b, hb, hb0⟩ := hb
    have h3 : a.tmod n = -(b % n) := by rw [hb, Int.neg_tmod, Int.tmod_eq_emod_of_nonneg (by omega)]
    have h1 : b % n < n := Int.emod_lt_of_pos _ (by omega)
    have h2 : 0 ≤ b % n := Int.emod_nonneg _ (by omega)
    have hnz : (n : Int) ≠ 0 := by omega
    have h5 : a % n = if b % n = 0 then 0 else n - b % n := by
      rw [hb]
      split
      · rename_i h; exact Int.emod_eq_zero_of_dvd ((Int.dvd_neg).2 (Int.dvd_of_emod_eq_zero h))
      · rename_i h
        rw [Int.neg_emod, if_neg (fun hd => h (Int.emod_eq_zero_of_dvd hd))]
        simp
    obtain ⟨t, ht⟩ : ∃ t, t = b % n := ⟨_, rfl⟩
    obtain ⟨r, hr⟩ : ∃ r, r = a % n := ⟨_, rfl⟩
    rw [← hr, ← ht] at h5
    rw [← hr]
    rw [← ht] at h1 h2 h3
    clear ht hb hr
    by_cases ht0 : t = 0
    · have h4 : ¬ (-t < 0) := by omega
      rw [if_pos ht0] at h5
      subst h5
      have HT := hid ht0
      subst ht0
      simp only [Int.neg_zero] at h3
      go_enter Tryz.func16, Tryz.ntmps16
      go_wp2
      go_ret
      exact ⟨rfl, rfl⟩
    · have h4 : -t < 0 := by omega
      rw [if_neg ht0] at h5
      subst h5
      go_enter Tryz.func16, Tryz.ntmps16
      go_wp2
      go_ret
      refine ⟨?_, rfl⟩
      have e : -t + (n : Int) = n - t := by omega
      simp only [e]
      rfl

end Go.Proofs.YtcccejhkblnonaaGreat

namespace Go.Proofs.YtcccejhkblnonaaGreat
open Go.RowKit
set_option linter.unusedVariables false
set_option linter.unusedSimpArgs false

/-- The small number of a raw one. -/
def smallQ (n : Int) : Rat := mkRat (n % 41 - 20) (1 + (n.tdiv 41 % 5).toNat)

theorem ofQ_mk (n d : Int) (hd : 0 < d) : mkQ (!(decide (n < 0) == decide (d < 0))) n.natAbs d.natAbs = mkRat n d.toNat := by
  unfold mkQ sgQ
  have h2 : ¬ d < 0 := by omega
  rw [show d.natAbs = d.toNat by omega]
  congr 1
  by_cases h1 : n < 0 <;> simp [h1, h2] <;> omega

set_option maxHeartbeats 4000000 in
set_option maxRecDepth 20000 in
theorem smallR_any (w : World) (n : Int) (n1 : -9223372036854775808 ≤ n) (n2 : n ≤ 9223372036854775807) :
    Calls Tryz.prog 51 #[.int .i64 n] w fun e w' => ∃ v, e = .returned v ∧ RV w' v (smallQ n) ∧ Fwd w w' := by
  have kR : BlkV (w.alloc (.cells #[.bool false, .slice none 0 0, .slice none 0 0] 34)) w.heap.size 34 [.bool false, .slice none 0 0, .slice none 0 0] := BlkV.made' w w.heap.size (by simp) 34 [.bool false, .slice none 0 0, .slice none 0 0]
  have hF := hid ((Fwd.refl w).alloc (.cells #[.bool false, .slice none 0 0, .slice none 0 0] 34))
  have a1 : 0 ≤ n % 41 := Int.emod_nonneg _ (by omega)
  have a2 : n % 41 < 41 := Int.emod_lt_of_pos _ (by omega)
  have b1 : 0 ≤ n.tdiv 41 % 5 := Int.emod_nonneg _ (by omega)
  have b2 : n.tdiv 41 % 5 < 5 := Int.emod_lt_of_pos _ (by omega)
  have q1 : -9223372036854775808 ≤ n.tdiv 41 := by
    rcases Int.le_total 0 n with h | h
    · have := Int.tdiv_nonneg h (show (0 : Int) ≤ 41 by omega); omega
    · have : n.tdiv 41 = -((-n) / 41) := by rw [← Int.neg_neg n, Int.neg_tdiv, Int.tdiv_eq_ediv_of_nonneg (by omega)]; simp
      omega
  have q2 : n.tdiv 41 ≤ 9223372036854775807 := by
    rcases Int.le_total 0 n with h | h
    · rw [Int.tdiv_eq_ediv_of_nonneg h]; omega
    · have : n.tdiv 41 = -((-n) / 41) := by rw [← Int.neg_neg n, Int.neg_tdiv, Int.tdiv_eq_ediv_of_nonneg (by omega)]; simp
      omega
  obtain ⟨r, hr⟩ : ∃ r, r = n % 41 := ⟨_, rfl⟩
  obtain ⟨d, hd⟩ : ∃ d, d = n.tdiv 41 % 5 := ⟨_, rfl⟩
  have HS := hid (show smallQ n = mkRat (r - 20) (1 + d.toNat) by rw [hr, hd]; rfl)
  have HR := hid hr
  have HD := hid hd
  rw [← hr] at a1 a2
  rw [← hd] at b1 b2
  clear hr hd
  have kR := hid kR
  go_enter Tryz.func51, Tryz.ntmps51
  go_wp2_with fail
  refine (within_l2 _ n 41 (by omega) (by omega) n1 n2).mono ?_
  rintro e w1 ⟨rfl, rfl⟩
  rw [show ((41 : Nat) : Int) = 41 from rfl, ← HR.out]
  go_wp2_with fail
  refine (within_l2 _ (n.tdiv 41) 5 (by omega) (by omega) q1 q2).mono ?_
  rintro e w1 ⟨rfl, rfl⟩
  rw [show ((5 : Nat) : Int) = 5 from rfl, ← HD.out]
  go_wp2_with fail
  refine (of2_any _ (r - 20) (1 + d) (by omega) (by omega) (by omega) (by omega) (by omega)).mono ?_
  rintro e w1 ⟨v, rfl, hv, hf1⟩
  rw [ofQ_mk (r - 20) (1 + d) (by omega), show (1 + d).toNat = 1 + d.toNat by omega, ← HS.out] at hv
  have HV := hid hv
  obtain ⟨vN, vD, rfl, h1, h2⟩ := hv
  obtain ⟨xo, xc, rfl, _, _, _⟩ := h1.parts
  obtain ⟨yo, yc, rfl, _, _, _⟩ := h2.parts
  clear h1 h2
  have kR1 := kR.out.fwd hf1
  have hF1 := hid (hF.out.trans hf1)
  clear hf1
  generalize negQ (smallQ n) = s at *
  generalize nl (smallQ n).num.natAbs = ln at *
  generalize nl (smallQ n).den = ld at *
  have kR2 := kR1.alloc (.cells #[.bool s, .slice xo ln xc, .slice yo ld yc] 34)
  have hF2 := hid (hF1.out.alloc (.cells #[.bool s, .slice xo ln xc, .slice yo ld yc] 34))
  have kT := BlkV.made w1 34 [.bool s, .slice xo ln xc, .slice yo ld yc]
  have HV2 := HV.out.fwd ((Fwd.refl w1).alloc (.cells #[.bool s, .slice xo ln xc, .slice yo ld yc] 34))
  clear HV
  go_upto_region 2 with fail
  generalize (w1.alloc (.cells #[.bool s, .slice xo ln xc, .slice yo ld yc] 34)) = w2 at kT kR2 hF2 HV2 ⊢
  have rc0 := BlkV.cell kR2 0 rfl
  have rc1 := BlkV.cell kR2 1 rfl
  have rc2 := BlkV.cell kR2 2 rfl
  have rz0 := BlkV.frozen kR2 0
  have rz1 := BlkV.frozen kR2 1
  have rz2 := BlkV.frozen kR2 2
  have tc0 := BlkV.cell kT 0 rfl
  have tc1 := BlkV.cell kT 1 rfl
  have tc2 := BlkV.cell kT 2 rfl
  have HV := hid HV2
  have kR2 := hid kR2
  clear kT HV2
  go_wp2_with fail
  have hz := BlkV.set (BlkV.set (BlkV.set kR2.out 0 (.bool s)) 1 (.slice xo ln xc)) 2 (.slice yo ld yc)
  have hon := only_set3 w.heap.size w2 (.bool s) (.slice xo ln xc) (.slice yo ld yc)
  generalize (((w2.setCell ⟨w.heap.size, 0, none⟩ (.bool s)).setCell ⟨w.heap.size, 1, none⟩ (.slice xo ln xc)).setCell ⟨w.heap.size, 2, none⟩ (.slice yo ld yc)) = wz at hz hon ⊢
  have e0 := BlkV.cell hz 0 rfl
  have e1 := BlkV.cell hz 1 rfl
  have e2 := BlkV.cell hz 2 rfl
  refine bodyPost_ret (by simp [results, Tryz.results51, go_sem, e0, e1, e2]; try rfl) rfl ?_
  exact ⟨_, rfl, RV.keepV HV.out kR2.out (by intro c hc x; simp at hc; rcases hc with rfl | rfl | rfl <;> simp) hon, hF2.out.wrote hon (Nat.le_refl _)⟩
end Go.Proofs.YtcccejhkblnonaaGreat
