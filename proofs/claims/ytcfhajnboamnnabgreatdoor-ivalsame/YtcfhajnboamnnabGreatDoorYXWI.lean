/- within, of several chapters' laws: what is left. -/
/- The second telling's small numbers, and rows of them (laws of chapter 2). -/
/- Enclosures, mathematics: the least and the greatest do not depend on the order; of small numbers, by trying them all. -/
/- The reader: whether two enclosures are the same, by a table upon letters. -/
import Derived.Test.YtcfhajnboamnnabGreatDoorKD
import Derived.Test.YtcfhajnboamnnabGreatDoorKI
import Derived.Test.YtcfhajnboamnnabGreatDoorYXN1
import Derived.Test.YtcfhajnboamnnabGreatDoorXEV7
import Derived.Test.YtcfhajnboamnnabGreatDoorXF44
import Derived.Test.YtcfhajnboamnnabGreatDoorYXEVW
import Derived.Test.YtcfhajnboamnnabGreatDoorYXEVG
import Derived.Laws.StructEq
namespace Go.Proofs.YtcfhajnboamnnabGreatDoor
open Go.RowKit
set_option linter.unusedVariables false
set_option linter.unusedSimpArgs false

set_option maxHeartbeats 1000000 in
/-- within: what is left. -/
theorem within_l2 (w : World) (a : Int) (n : Nat) (hn : 0 < n) (hn2 : n ≤ 1000000000) (ha1 : -9223372036854775808 ≤ a) (ha2 : a ≤ 9223372036854775807) :
    Calls Tryz.prog 76 #[.int .i64 a, .int .i64 n] w fun e w' => e = .returned (.int .i64 (a % n)) ∧ w = w' := by
  by_cases h0 : 0 ≤ a
  · have h1 : a % n < n := Int.emod_lt_of_pos _ (by omega)
    have h2 : 0 ≤ a % n := Int.emod_nonneg _ (by omega)
    have hnz : (n : Int) ≠ 0 := by omega
    go_enter Tryz.func76, Tryz.ntmps76
    go_wp2
    go_ret
    exact ⟨rfl, rfl⟩
  · have hb : ∃ b : Int, a = -b ∧ 0 < b := ⟨-a, by omega, by omega⟩
    obtain ⟨b, hb, hb0⟩ := hb
    have h3 : a.tmod n = -(b % n) := by rw [hb, Int.neg_tmod, Int.tmod_eq_emod_of_nonneg (by omega)]
    have h1 : b % n < n := Int.emod_lt_of_pos _ (by omega)
    have h2 : 0 ≤ b % n := Int.emod_nonneg _ (by omega)
    have hnz : (n : Int) ≠ 0 := by omega
    have h5 : a % n = if b % n = 0 then 0 else n - b % n := by
      rw [hb]
      split
      · rename_i h; exact Int.emod_eq_zero_of_dvd ((Int.dvd_neg).2 (Int.dvd_of_emod_eq_zero h))
      · rename_i h
        rw [Int.neg_emod, if_neg (fun hd => h (Int.emod_eq_zero_of_dvd hd))]
        simp
    obtain ⟨t, ht⟩ : ∃ t, t = b % n := ⟨_, rfl⟩
    obtain ⟨r, hr⟩ : ∃ r, r = a % n := ⟨_, rfl⟩
    rw [← hr, ← ht] at h5
    rw [← hr]
    rw [← ht] at h1 h2 h3
    clear ht hb hr
    by_cases ht0 : t = 0
    · have h4 : ¬ (-t < 0) := by omega
      rw [if_pos ht0] at h5
      subst h5
      have HT := hid ht0
      subst ht0
      simp only [Int.neg_zero] at h3
      go_enter Tryz.func76, Tryz.ntmps76
      go_wp2
      go_ret
      exact ⟨rfl, rfl⟩
    · have h4 : -t < 0 := by omega
      rw [if_neg ht0] at h5
      subst h5
      go_enter Tryz.func76, Tryz.ntmps76
      go_wp2
      go_ret
      refine ⟨?_, rfl⟩
      have e : -t + (n : Int) = n - t := by omega
      simp only [e]
      rfl

set_option maxHeartbeats 1000000 in
/-- within: what is left. -/
theorem within_l4 (w : World) (a : Int) (n : Nat) (hn : 0 < n) (hn2 : n ≤ 1000000000) (ha1 : -9223372036854775808 ≤ a) (ha2 : a ≤ 9223372036854775807) :
    Calls Tryz.prog 44 #[.int .i64 a, .int .i64 n] w fun e w' => e = .returned (.int .i64 (a % n)) ∧ w = w' := by
  by_cases h0 : 0 ≤ a
  · have h1 : a % n < n := Int.emod_lt_of_pos _ (by omega)
    have h2 : 0 ≤ a % n := Int.emod_nonneg _ (by omega)
    have hnz : (n : Int) ≠ 0 := by omega
    go_enter Tryz.func44, Tryz.ntmps44
    go_wp2
    go_ret
    exact ⟨rfl, rfl⟩
  · have hb : ∃ b : Int, a = -b ∧ 0 < b := ⟨-a, by omega, by omega⟩
    obtain ⟨b, hb, hb0⟩ := hb
    have h3 : a.tmod n = -(b % n) := by rw [hb, Int.neg_tmod, Int.tmod_eq_emod_of_nonneg (by omega)]
    have h1 : b % n < n := Int.emod_lt_of_pos _ (by omega)
    have h2 : 0 ≤ b % n := Int.emod_nonneg _ (by omega)
    have hnz : (n : Int) ≠ 0 := by omega
    have h5 : a % n = if b % n = 0 then 0 else n - b % n := by
      rw [hb]
      split
      · rename_i h; exact Int.emod_eq_zero_of_dvd ((Int.dvd_neg).2 (Int.dvd_of_emod_eq_zero h))
      · rename_i h
        rw [Int.neg_emod, if_neg (fun hd => h (Int.emod_eq_zero_of_dvd hd))]
        simp
    obtain ⟨t, ht⟩ : ∃ t, t = b % n := ⟨_, rfl⟩
    obtain ⟨r, hr⟩ : ∃ r, r = a % n := ⟨_, rfl⟩
    rw [← hr, ← ht] at h5
    rw [← hr]
    rw [← ht] at h1 h2 h3
    clear ht hb hr
    by_cases ht0 : t = 0
    · have h4 : ¬ (-t < 0) := by omega
      rw [if_pos ht0] at h5
      subst h5
      have HT := hid ht0
      subst ht0
      simp only [Int.neg_zero] at h3
      go_enter Tryz.func44, Tryz.ntmps44
      go_wp2
      go_ret
      exact ⟨rfl, rfl⟩
    · have h4 : -t < 0 := by omega
      rw [if_neg ht0] at h5
      subst h5
      go_enter Tryz.func44, Tryz.ntmps44
      go_wp2
      go_ret
      refine ⟨?_, rfl⟩
      have e : -t + (n : Int) = n - t := by omega
      simp only [e]
      rfl

end Go.Proofs.YtcfhajnboamnnabGreatDoor

namespace Go.Proofs.YtcfhajnboamnnabGreatDoor
open Go.RowKit
set_option linter.unusedVariables false
set_option linter.unusedSimpArgs false

/-- The small number of a raw one. -/
def smallQ (n : Int) : Rat := mkRat (n % 41 - 20) (1 + (n.tdiv 41 % 5).toNat)

theorem ofQ_mk (n d : Int) (hd : 0 < d) : mkQ (!(decide (n < 0) == decide (d < 0))) n.natAbs d.natAbs = mkRat n d.toNat := by
  unfold mkQ sgQ
  have h2 : ¬ d < 0 := by omega
  rw [show d.natAbs = d.toNat by omega]
  congr 1
  by_cases h1 : n < 0 <;> simp [h1, h2] <;> omega

set_option maxHeartbeats 4000000 in
set_option maxRecDepth 20000 in
theorem smallR_any (w : World) (n : Int) (n1 : -9223372036854775808 ≤ n) (n2 : n ≤ 9223372036854775807) :
    Calls Tryz.prog 38 #[.int .i64 n] w fun e w' => ∃ v, e = .returned v ∧ RV w' v (smallQ n) ∧ Fwd w w' := by
  have kR : BlkV (w.alloc (.cells #[.bool false, .slice none 0 0, .slice none 0 0] 27)) w.heap.size 27 [.bool false, .slice none 0 0, .slice none 0 0] := BlkV.made' w w.heap.size (by simp) 27 [.bool false, .slice none 0 0, .slice none 0 0]
  have hF := hid ((Fwd.refl w).alloc (.cells #[.bool false, .slice none 0 0, .slice none 0 0] 27))
  have a1 : 0 ≤ n % 41 := Int.emod_nonneg _ (by omega)
  have a2 : n % 41 < 41 := Int.emod_lt_of_pos _ (by omega)
  have b1 : 0 ≤ n.tdiv 41 % 5 := Int.emod_nonneg _ (by omega)
  have b2 : n.tdiv 41 % 5 < 5 := Int.emod_lt_of_pos _ (by omega)
  have q1 : -9223372036854775808 ≤ n.tdiv 41 := by
    rcases Int.le_total 0 n with h | h
    · have := Int.tdiv_nonneg h (show (0 : Int) ≤ 41 by omega); omega
    · have : n.tdiv 41 = -((-n) / 41) := by rw [← Int.neg_neg n, Int.neg_tdiv, Int.tdiv_eq_ediv_of_nonneg (by omega)]; simp
      omega
  have q2 : n.tdiv 41 ≤ 9223372036854775807 := by
    rcases Int.le_total 0 n with h | h
    · rw [Int.tdiv_eq_ediv_of_nonneg h]; omega
    · have : n.tdiv 41 = -((-n) / 41) := by rw [← Int.neg_neg n, Int.neg_tdiv, Int.tdiv_eq_ediv_of_nonneg (by omega)]; simp
      omega
  obtain ⟨r, hr⟩ : ∃ r, r = n % 41 := ⟨_, rfl⟩
  obtain ⟨d, hd⟩ : ∃ d, d = n.tdiv 41 % 5 := ⟨_, rfl⟩
  have HS := hid (show smallQ n = mkRat (r - 20) (1 + d.toNat) by rw [hr, hd]; rfl)
  have HR := hid hr
  have HD := hid hd
  rw [← hr] at a1 a2
  rw [← hd] at b1 b2
  clear hr hd
  have kR := hid kR
  go_enter Tryz.func38, Tryz.ntmps38
  go_wp2_with fail
  refine (within_l2 _ n 41 (by omega) (by omega) n1 n2).mono ?_
  rintro e w1 ⟨rfl, rfl⟩
  rw [show ((41 : Nat) : Int) = 41 from rfl, ← HR.out]
  go_wp2_with fail
  refine (within_l2 _ (n.tdiv 41) 5 (by omega) (by omega) q1 q2).mono ?_
  rintro e w1 ⟨rfl, rfl⟩
  rw [show ((5 : Nat) : Int) = 5 from rfl, ← HD.out]
  go_wp2_with fail
  refine (of2_any _ (r - 20) (1 + d) (by omega) (by omega) (by omega) (by omega) (by omega)).mono ?_
  rintro e w1 ⟨v, rfl, hv, hf1⟩
  rw [ofQ_mk (r - 20) (1 + d) (by omega), show (1 + d).toNat = 1 + d.toNat by omega, ← HS.out] at hv
  have HV := hid hv
  obtain ⟨vN, vD, rfl, h1, h2⟩ := hv
  obtain ⟨xo, xc, rfl, _, _, _⟩ := h1.parts
  obtain ⟨yo, yc, rfl, _, _, _⟩ := h2.parts
  clear h1 h2
  have kR1 := kR.out.fwd hf1
  have hF1 := hid (hF.out.trans hf1)
  clear hf1
  generalize negQ (smallQ n) = s at *
  generalize nl (smallQ n).num.natAbs = ln at *
  generalize nl (smallQ n).den = ld at *
  have kR2 := kR1.alloc (.cells #[.bool s, .slice xo ln xc, .slice yo ld yc] 27)
  have hF2 := hid (hF1.out.alloc (.cells #[.bool s, .slice xo ln xc, .slice yo ld yc] 27))
  have kT := BlkV.made w1 27 [.bool s, .slice xo ln xc, .slice yo ld yc]
  have HV2 := HV.out.fwd ((Fwd.refl w1).alloc (.cells #[.bool s, .slice xo ln xc, .slice yo ld yc] 27))
  clear HV
  go_upto_region 2 with fail
  generalize (w1.alloc (.cells #[.bool s, .slice xo ln xc, .slice yo ld yc] 27)) = w2 at kT kR2 hF2 HV2 ⊢
  have rc0 := BlkV.cell kR2 0 rfl
  have rc1 := BlkV.cell kR2 1 rfl
  have rc2 := BlkV.cell kR2 2 rfl
  have rz0 := BlkV.frozen kR2 0
  have rz1 := BlkV.frozen kR2 1
  have rz2 := BlkV.frozen kR2 2
  have tc0 := BlkV.cell kT 0 rfl
  have tc1 := BlkV.cell kT 1 rfl
  have tc2 := BlkV.cell kT 2 rfl
  have HV := hid HV2
  have kR2 := hid kR2
  clear kT HV2
  go_wp2_with fail
  have hz := BlkV.set (BlkV.set (BlkV.set kR2.out 0 (.bool s)) 1 (.slice xo ln xc)) 2 (.slice yo ld yc)
  have hon := only_set3 w.heap.size w2 (.bool s) (.slice xo ln xc) (.slice yo ld yc)
  generalize (((w2.setCell ⟨w.heap.size, 0, none⟩ (.bool s)).setCell ⟨w.heap.size, 1, none⟩ (.slice xo ln xc)).setCell ⟨w.heap.size, 2, none⟩ (.slice yo ld yc)) = wz at hz hon ⊢
  have e0 := BlkV.cell hz 0 rfl
  have e1 := BlkV.cell hz 1 rfl
  have e2 := BlkV.cell hz 2 rfl
  refine bodyPost_ret (by simp [results, Tryz.results38, go_sem, e0, e1, e2]; try rfl) rfl ?_
  exact ⟨_, rfl, RV.keepV HV.out kR2.out (by intro c hc x; simp at hc; rcases hc with rfl | rfl | rfl <;> simp) hon, hF2.out.wrote hon (Nat.le_refl _)⟩
end Go.Proofs.YtcfhajnboamnnabGreatDoor

namespace Go.Proofs.YtcfhajnboamnnabGreatDoor
open Go.RowKit
set_option linter.unusedVariables false
set_option linter.unusedSimpArgs false

theorem cmpF_rk {a b : Nat} (ha : isNan a = false) (hb : isNan b = false) : cmpF a b = (cmpI (rk a) (rk b), true) := by
  unfold cmpF
  rw [ha, hb]
  rfl
theorem cmpI_neg {x y : Int} : cmpI x y < 0 ↔ x < y := by
  unfold cmpI
  split
  · exact ⟨fun _ => by assumption, fun _ => by omega⟩
  · split <;> exact ⟨fun h => by omega, fun h => by omega⟩
theorem joL_rk {a b : Nat} (ha : isNan a = false) (hb : isNan b = false) : isNan (joL a b) = false ∧ rk (joL a b) = min (rk a) (rk b) := by
  unfold joL
  rw [cmpF_rk hb ha]
  simp only [cmpI_neg]
  split
  · exact ⟨hb, by omega⟩
  · exact ⟨ha, by omega⟩
theorem joH_rk {a b : Nat} (ha : isNan a = false) (hb : isNan b = false) : isNan (joH a b) = false ∧ rk (joH a b) = max (rk a) (rk b) := by
  unfold joH
  rw [cmpF_rk ha hb]
  simp only [cmpI_neg]
  split
  · exact ⟨hb, by omega⟩
  · exact ⟨ha, by omega⟩
theorem cmpF_same {a b : Nat} (ha : isNan a = false) (hb : isNan b = false) (h : rk a = rk b) : cmpF a b = (0, true) := by
  rw [cmpF_rk ha hb, h]
  unfold cmpI
  simp
/-- In another order the ends are of the same numbers. -/
theorem loI_turn {p0 p1 p2 p3 : Nat} (h0 : isNan p0 = false) (h1 : isNan p1 = false) (h2 : isNan p2 = false) (h3 : isNan p3 = false) : cmpF (loI p0 p1 p2 p3) (loI p0 p2 p1 p3) = (0, true) := by
  obtain ⟨a1, a2⟩ := joL_rk h0 h1
  obtain ⟨a3, a4⟩ := joL_rk a1 h2
  obtain ⟨a5, a6⟩ := joL_rk a3 h3
  obtain ⟨b1, b2⟩ := joL_rk h0 h2
  obtain ⟨b3, b4⟩ := joL_rk b1 h1
  obtain ⟨b5, b6⟩ := joL_rk b3 h3
  exact cmpF_same a5 b5 (by unfold loI; rw [a6, b6, a4, b4, a2, b2]; omega)
theorem hiI_turn {p0 p1 p2 p3 : Nat} (h0 : isNan p0 = false) (h1 : isNan p1 = false) (h2 : isNan p2 = false) (h3 : isNan p3 = false) : cmpF (hiI p0 p1 p2 p3) (hiI p0 p2 p1 p3) = (0, true) := by
  obtain ⟨a1, a2⟩ := joH_rk h0 h1
  obtain ⟨a3, a4⟩ := joH_rk a1 h2
  obtain ⟨a5, a6⟩ := joH_rk a3 h3
  obtain ⟨b1, b2⟩ := joH_rk h0 h2
  obtain ⟨b3, b4⟩ := joH_rk b1 h1
  obtain ⟨b5, b6⟩ := joH_rk b3 h3
  exact cmpF_same a5 b5 (by unfold hiI; rw [a6, b6, a4, b4, a2, b2]; omega)
theorem withMul_is (v : Bool × Bool × Nat × Int) (k : Bool × Bool × Nat × Int → Nat × Nat) : withMul (some v) k = k v := rfl
theorem mulF_no {f g : Nat} (hf : fsz f < 9218868437227405312) (hg : fsz g < 9218868437227405312) : isNan (mulF 2 f g).1 = false ∧ isNan (mulF 3 f g).1 = false := by
  have v : ∀ {f : Nat}, fsz f < 9218868437227405312 → valF f = (fneg f, false, vsz f, vex f) := fun h => by unfold valF; rw [if_neg (by omega)]
  have e : ∀ m, mulF m f g = rdV m (fneg f != fneg g, false, vsz f * vsz g, vex f + vex g) := fun m => by
    unfold mulF
    rw [isNan_le4 (by omega), isNan_le4 (by omega), if_neg (by simp), v hf, v hg, mulV_fin, withMul_is]
  rw [e 2, e 3]
  have h := (narrow_rdV (s := (fneg f != fneg g)) (n := vsz f * vsz g) (x := vex f + vex g)).2.2.2
  exact ⟨isNan_le4 h.1, isNan_le4 h.2⟩
/-- The product of two enclosures. -/
def mulI (a b c d : Nat) : Nat × Nat :=
  (loI (mulF 2 a c).1 (mulF 2 a d).1 (mulF 2 b c).1 (mulF 2 b d).1, hiI (mulF 3 a c).1 (mulF 3 a d).1 (mulF 3 b c).1 (mulF 3 b d).1)
theorem mulI_turn {a b c d : Nat} (ha : fsz a < 9218868437227405312) (hb : fsz b < 9218868437227405312) (hc : fsz c < 9218868437227405312) (hd : fsz d < 9218868437227405312) :
    cmpF (mulI a b c d).1 (mulI c d a b).1 = (0, true) ∧ cmpF (mulI a b c d).2 (mulI c d a b).2 = (0, true) := by
  unfold mulI
  rw [mulF_comm 2 c a, mulF_comm 2 c b, mulF_comm 2 d a, mulF_comm 2 d b, mulF_comm 3 c a, mulF_comm 3 c b, mulF_comm 3 d a, mulF_comm 3 d b]
  exact ⟨loI_turn (mulF_no ha hc).1 (mulF_no ha hd).1 (mulF_no hb hc).1 (mulF_no hb hd).1, hiI_turn (mulF_no ha hc).2 (mulF_no ha hd).2 (mulF_no hb hc).2 (mulF_no hb hd).2⟩
theorem mulI_any {w : World} (hR : Ru w) {a b c d : Nat} (ha : a < 18446744073709551616) (hb : b < 18446744073709551616) (hc : c < 18446744073709551616) (hd : d < 18446744073709551616) :
    Calls Tryz.prog 26 #[.agg #[.int .u64 a, .int .u64 b], .agg #[.int .u64 c, .int .u64 d]] w fun e w' => e = .returned (.agg #[.int .u64 ((mulI a b c d).1 : Nat), .int .u64 ((mulI a b c d).2 : Nat)]) ∧ Fwd w w' :=
  im4_tab hR a b c d _ _ _ _ _ _ _ _ _ _ _ _ _ _ _ _ (mulF_lt _ _ _) (mulF_lt _ _ _) (mulF_lt _ _ _) (mulF_lt _ _ _) (mulF_lt _ _ _) (mulF_lt _ _ _) (mulF_lt _ _ _) (mulF_lt _ _ _)
    (fun w h => mulF_any h 2 a c ha hc) (fun w h => mulF_any h 3 a c ha hc) (fun w h => mulF_any h 2 a d ha hd) (fun w h => mulF_any h 3 a d ha hd)
    (fun w h => mulF_any h 2 b c hb hc) (fun w h => mulF_any h 3 b c hb hc) (fun w h => mulF_any h 2 b d hb hd) (fun w h => mulF_any h 3 b d hb hd) rfl rfl rfl rfl rfl rfl
/-- Small numbers: nought lies in the difference of an enclosure and itself, the square in the product. -/
def fst1 (p : Nat × Nat) : Nat := p.1
theorem fst1_eq (p : Nat × Nat) : fst1 p = p.1 := rfl
def ofL (q : Rat) : Nat := fst1 (ofQ 2 (negQ q) q.num.natAbs q.den)
def ofH (q : Rat) : Nat := fst1 (ofQ 3 (negQ q) q.num.natAbs q.den)
theorem ofL_eq (q : Rat) : ofL q = (ofQ 2 (negQ q) q.num.natAbs q.den).1 := by unfold ofL; rw [fst1_eq]
theorem ofH_eq (q : Rat) : ofH q = (ofQ 3 (negQ q) q.num.natAbs q.den).1 := by unfold ofH; rw [fst1_eq]
def hasI (l h : Nat) (q : Rat) : Bool := decide (joL l (ofL q) = l) && decide (joH h (ofH q) = h)
def smI (q : Rat) : Bool :=
  hasI (addF 2 (ofL q) (flipF (ofH q))).1 (addF 3 (ofH q) (flipF (ofL q))).1 0 && hasI (mulI (ofL q) (ofH q) (ofL q) (ofH q)).1 (mulI (ofL q) (ofH q) (ofL q) (ofH q)).2 (q * q)
/-- A number is reckoned once. -/
def fc (n : Nat) (k : Nat → Bool) : Bool := n.rec (k 0) (fun m _ => k (m + 1))
theorem fc_eq (n : Nat) (k : Nat → Bool) : fc n k = k n := by cases n <;> rfl
def smF (q r : Rat) : Bool :=
  fc (ofL q) fun a => fc (ofH q) fun b => fc (ofL r) fun u => fc (ofH r) fun v =>
  fc (flipF a) fun fa => fc (flipF b) fun fb => fc (addF 2 a fb).1 fun l => fc (addF 3 b fa).1 fun h =>
  fc (mulF 2 a a).1 fun p0 => fc (mulF 2 a b).1 fun p1 => fc (mulF 2 b a).1 fun p2 => fc (mulF 2 b b).1 fun p3 =>
  fc (mulF 3 a a).1 fun q0 => fc (mulF 3 a b).1 fun q1 => fc (mulF 3 b a).1 fun q2 => fc (mulF 3 b b).1 fun q3 =>
  fc (joL p0 p1) fun i1 => fc (joL i1 p2) fun i2 => fc (joL i2 p3) fun i3 => fc (joH q0 q1) fun j1 => fc (joH j1 q2) fun j2 => fc (joH j2 q3) fun j3 =>
  fc (ofL 0) fun z => fc (ofH 0) fun y =>
  (decide (joL l z = l) && decide (joH h y = h)) && (decide (joL i3 u = i3) && decide (joH j3 v = j3))
theorem smF_eq (q : Rat) : smF q (q * q) = smI q := by
  unfold smF
  simp only [fc_eq]
  unfold smI hasI mulI loI hiI
  dsimp only
theorem smF_all : ∀ k : Fin 41, ∀ d : Fin 5, smF (mkRat (((k : Nat) : Int) - 20) (1 + (d : Nat))) (mkRat (((k : Nat) : Int) - 20) (1 + (d : Nat)) * mkRat (((k : Nat) : Int) - 20) (1 + (d : Nat))) = true := by decide +kernel
theorem smI_all (k : Fin 41) (d : Fin 5) : smI (mkRat (((k : Nat) : Int) - 20) (1 + (d : Nat))) = true := by
  rw [← smF_eq]
  exact smF_all k d
theorem smI_small (n : Int) : smI (smallQ n) = true := by
  unfold smallQ
  have a1 : 0 ≤ n % 41 := Int.emod_nonneg _ (by omega)
  have a2 : n % 41 < 41 := Int.emod_lt_of_pos _ (by omega)
  have b1 : 0 ≤ n.tdiv 41 % 5 := Int.emod_nonneg _ (by omega)
  have b2 : n.tdiv 41 % 5 < 5 := Int.emod_lt_of_pos _ (by omega)
  have := smI_all ⟨(n % 41).toNat, by omega⟩ ⟨(n.tdiv 41 % 5).toNat, by omega⟩
  simp only at this
  rwa [show (((n % 41).toNat : Nat) : Int) = n % 41 by omega] at this
theorem ofI_any {w : World} {v : Value} {q : Rat} (hR : Ru w) (hv : RV w v q) (hq : nr q ≤ 2000) :
    Calls Tryz.prog 18 #[v] w fun e w' => e = .returned (.agg #[.int .u64 (ofL q : Nat), .int .u64 (ofH q : Nat)]) ∧ Fwd w w' := by
  have b1 := nr_num q
  have b2 := nr_den q
  have c1 : nl q.num.natAbs ≤ 10000 := by omega
  have c2 : nl q.den ≤ 10000 := by omega
  have h := ivOf_any hR hv c1 c2 q.den_nz
  rw [ofL_eq, ofH_eq]
  exact h
theorem hasI_any {w : World} {v : Value} {q : Rat} {l h : Nat} (hR : Ru w) (hv : RV w v q) (hq : nr q ≤ 2000) (hl : l < 18446744073709551616) (hh : h < 18446744073709551616) (hb : hasI l h q = true) :
    Calls Tryz.prog 16 #[.agg #[.int .u64 l, .int .u64 h], v] w fun e w' => e = .returned (.bool true) ∧ Fwd w w' := by
  have b1 := nr_num q
  have b2 := nr_den q
  have c1 : nl q.num.natAbs ≤ 10000 := by omega
  have c2 : nl q.den ≤ 10000 := by omega
  unfold hasI at hb
  rw [ofL_eq, ofH_eq] at hb
  simp only [Bool.and_eq_true, decide_eq_true_eq] at hb
  obtain ⟨h1, h2⟩ := hb
  have l1 : (ofQ 2 (negQ q) q.num.natAbs q.den).1 < 18446744073709551616 := by unfold ofQ; exact rdV_lt 2 _
  have l2 : (ofQ 3 (negQ q) q.num.natAbs q.den).1 < 18446744073709551616 := by unfold ofQ; exact rdV_lt 3 _
  obtain ⟨A, ha⟩ : ∃ A, (ofQ 2 (negQ q) q.num.natAbs q.den).1 = A := ⟨_, rfl⟩
  obtain ⟨B, hb⟩ : ∃ B, (ofQ 3 (negQ q) q.num.natAbs q.den).1 = B := ⟨_, rfl⟩
  rw [ha] at l1 h1
  rw [hb] at l2 h2
  exact ivHas_in hR hv c1 c2 q.den_nz hl hh l1 l2 ha hb h1 h2
end Go.Proofs.YtcfhajnboamnnabGreatDoor

namespace Go.Proofs.YtcfhajnboamnnabGreatDoor
open Go.RowKit Go.Ev
set_option linter.unusedVariables false
set_option linter.unusedSimpArgs false

theorem guardIv : Tryz.prog.eqGuardType Tryz.prog.depth 24 = false := by kernel_rfl
theorem eqIv (a b c d : Int) (w : World) : (Op.equalIn 10000 24 (.agg #[.int .u64 a, .int .u64 b]) (.agg #[.int .u64 c, .int .u64 d])).run Tryz.prog w = .ok (a == c && b == d) w := by
  have u3 := Tryz.underlying22
  have a3 := Tryz.isAgg22
  have z3 := Tryz.sizeOf22
  have hS : Tryz.prog.underlying 24 = some (.struct (Tryz.prog.fieldsOf 24)) := by kernel_rfl
  have hp : Tryz.prog.stoodInHeld 24 = false := by kernel_rfl
  rw [show (10000 : Nat) = 9999 + 1 from rfl, run_equalIn_agg w 9999 _ _ _ hS hp]
  simp only [Program.fieldsOf, Tryz.underlying24]
  go_simp
  by_cases h1 : a = c <;> by_cases h2 : b = d <;> simp [h1, h2]

abbrev ET := List (AC × AC × Bool)
def lookE : ET → AC → AC → Option Bool
  | [], _, _ => none
  | e :: r, c, d => bif acB e.1 c && acB e.2.1 d then some e.2.2 else lookE r c d
theorem lookE_ok {c d : AC} {x : Bool} : ∀ {l : ET}, lookE l c d = some x → (c, d, x) ∈ l
  | [], h => by cases h
  | e :: r, h => by
    simp only [lookE] at h
    cases hb : acB e.1 c && acB e.2.1 d with
    | true =>
      rw [hb] at h
      simp only [Bool.and_eq_true] at hb
      obtain ⟨e1, e2, e3⟩ := e
      obtain rfl := acB_ok hb.1
      obtain rfl := acB_ok hb.2
      obtain rfl := Option.some.inj h
      exact List.mem_cons_self
    | false => rw [hb] at h; exact List.mem_cons_of_mem _ (lookE_ok (l := r) h)
/-- Two cells are told apart, or not, rightly. -/
def EOk (σ : SymD) (e : AC × AC × Bool) : Prop := isPl e.1 = true ∧ isPl e.2.1 = true ∧ ∃ x y : Int, acV σ e.1 = .int .u64 x ∧ acV σ e.2.1 = .int .u64 y ∧ (x == y) = e.2.2
def ivHook (l : ET) : OpF := fun ev S n o => match o.op with
  | .binOp .eql t x y _ => bif Nat.beq t 24 then (match ev x, ev y with
    | some (.v (.agg [c1, c2])), some (.v (.agg [d1, d2])) => match lookE l c1 d1, lookE l c2 d2 with
      | some p, some q => some (avB (p && q), [], n)
      | _, _ => none
    | _, _ => none) else none
  | _ => none
theorem ivHook_le (l : ET) : OpLe (ivHook l) := by
  intro S n n' ev o av dl h
  unfold ivHook at h
  split at h
  · rename_i t x y yt hop
    cases ht : Nat.beq t 24 with
    | false => rw [ht] at h; cases h
    | true =>
      rw [ht] at h
      simp only [cond_true] at h
      split at h
      · split at h
        · simp only [Option.some.injEq, Prod.mk.injEq] at h; obtain ⟨_, _, rfl⟩ := h; exact Nat.le_refl _
        · cases h
      · cases h
  · cases h
theorem ivHook_ok {st : Bool} {ν : Nat → Rat} {σ : SymD} {γ : Nat → Option (List Value)} {B : Nat} {l : ET} (hl : ∀ e ∈ l, EOk σ e) : OpOK (DomQ st ν σ γ) B Tryz.prog (ivHook l) := by
  intro ρ w S n n' ev a o av dl he hS hB hk hf h next Q hn
  unfold ivHook at h
  split at h
  · rename_i t x y yt hop
    cases ht : Nat.beq t 24 with
    | false => rw [ht] at h; cases h
    | true =>
      rw [ht] at h
      simp only [cond_true] at h
      obtain rfl := Nat.eq_of_beq_eq_true ht
      split at h
      · rename_i c1 c2 d1 d2 hx hy
        split at h
        · rename_i p q h1 h2
          simp only [Option.some.injEq, Prod.mk.injEq] at h
          obtain ⟨rfl, rfl, rfl⟩ := h
          obtain ⟨a1, a2, x1, y1, a3, a4, a5⟩ := hl _ (lookE_ok h1)
          obtain ⟨b1, b2, x2, y2, b3, b4, b5⟩ := hl _ (lookE_ok h2)
          obtain ⟨us, hux, hu⟩ := he _ _ hx
          obtain ⟨vs, hvx, hv⟩ := he _ _ hy
          match us, hu, vs, hv with
          | [u1, u2], ⟨g1, g2, _⟩, [v1, v2], ⟨k1, k2, _⟩ =>
            obtain rfl := (acV_rel a1 g1).trans a3
            obtain rfl := (acV_rel b1 g2).trans b3
            obtain rfl := (acV_rel a2 k1).trans a4
            obtain rfl := (acV_rel b2 k2).trans b4
            have hrun : (execOp a.eval o).run Tryz.prog w = .ok (.value (.bool (p && q))) w := by
              unfold execOp
              rw [hop]
              simp only [hux, hvx]
              refine wrapV ?_
              simp only [Sem.run_bind, run_eqGuard_agg w _ _ _ _ _ _ guardIv, Result.andThen_ok, run_eql_struct, eqIv]
              rw [show (x1 == y1) = p from a5, show (x2 == y2) = q from b5]
            unfold Oper.wp
            rw [hrun]
            exact hn _ w ρ (avB_rel _) (Tn.refl hS _ hk)
        · cases h
      · cases h
  · cases h
end Go.Proofs.YtcfhajnboamnnabGreatDoor
