/- sfloat's sum, product, sumOfProduct: of values that lie in a row. -/
import Derived.Test.YtbhehgodnfcdgaaDoorXF10
import Derived.Test.YtbhehgodnfcdgaaDoorXF11
namespace Go.Proofs.YtbhehgodnfcdgaaDoor
open Go.RowKit
set_option linter.unusedVariables false

theorem Fwd.undrew' {a w : World} (h : Fwd a w) : Fwd a.drew w := ⟨h.os, h.tape, h.output, h.size, h.block⟩
theorem cell_drew_alloc' {w : World} {o : Obj} {p : Addr} {v : Value} (h : w.drew.cell? p = some v) : (w.alloc o).drew.cell? p = some v := Fwd.cell ((Fwd.refl w).alloc o) h
theorem farset5 {w : World} {g : Nat} {a b c d e v : Value} {p : Addr} (h : p.block ≠ g) (hc : w.cell? p = some v) : (((((w.setCell ⟨g, 0, none⟩ a).setCell ⟨g, 1, none⟩ b).setCell ⟨g, 2, none⟩ c).setCell ⟨g, 3, none⟩ d).setCell ⟨g, 4, none⟩ e).cell? p = some v :=
  farset h (farset h (farset h (farset h (farset h hc))))
theorem mulV_small {s en : Bool} {n : Nat} {x : Int} {t em : Bool} {k : Nat} {y : Int} (hn : n < 9007199254740992) (hk : k < 9007199254740992) (h1 : -10000 ≤ x) (h2 : x ≤ 10000) (h3 : -10000 ≤ y) (h4 : y ≤ 10000) :
    blen ((mulV (s, en, n, x) (t, em, k, y)).getD (false, false, 0, 0)).2.2.1 ≤ 127 ∧ -20000 ≤ ((mulV (s, en, n, x) (t, em, k, y)).getD (false, false, 0, 0)).2.2.2 ∧ ((mulV (s, en, n, x) (t, em, k, y)).getD (false, false, 0, 0)).2.2.2 ≤ 20000 := by
  have hz : blen 0 ≤ 127 := by decide
  have hp : blen (n * k) ≤ 127 := by
    refine blen_of_lt (Nat.lt_of_le_of_lt (Nat.mul_le_mul (Nat.le_of_lt_succ hn) (Nat.le_of_lt_succ hk)) (by decide))
  unfold mulV
  split
  · exact ⟨hz, by decide, by decide⟩
  · split
    · exact ⟨hz, by simp, by simp⟩
    · exact ⟨hp, by simp; omega, by simp; omega⟩

set_option maxHeartbeats 8000000 in
set_option maxRecDepth 100000 in
theorem sum_any {w : World} {g : Nat} {T : TypeId} {s en t em : Bool} {a b n c d k : Nat} {x y : Int} (m : Int) (hn : VV (.agg #[.bool s, .bool en, .int .u64 (a), .int .u64 (b), .int .i64 (x)]) s en n x) (hk : VV (.agg #[.bool t, .bool em, .int .u64 (c), .int .u64 (d), .int .i64 (y)]) t em k y) (hB : BlkV w g T [.bool s, .bool en, .int .u64 (a), .int .u64 (b), .int .i64 (x), .bool t, .bool em, .int .u64 (c), .int .u64 (d), .int .i64 (y)]) (hn0 : n < 9007199254740992) (hn1 : -10000 ≤ x) (hn2 : x ≤ 10000) (hk0 : k < 9007199254740992) (hk1 : -10000 ≤ y) (hk2 : y ≤ 10000) :
    Calls Tryd.prog 26 #[ruleV m, .slice (some ⟨g, 0, none⟩) 2 2] w fun e w' => e = .returned (.tuple #[.int .u64 ((addV m (s, en, n, x) (t, em, k, y)).1 : Nat), .int .i64 ((addV m (s, en, n, x) (t, em, k, y)).2 : Nat)]) ∧ Fwd w w' := by
  have ad := fun w => add_any (w := w) m hn hk (blen_of_lt (k := 127) (Nat.lt_trans hn0 (by decide))) (blen_of_lt (k := 127) (Nat.lt_trans hk0 (by decide))) (by omega) (by omega) (by omega) (by omega)
  unfold ruleV at ad
  generalize addV m (s, en, n, x) (t, em, k, y) = A at *
  obtain ⟨z1, z2⟩ := A
  have hlt := BlkV.lt hB
  unfold ruleV
  have kQ : BlkV (w.alloc (.cells #[.int .u8 (rAbove m), .int .u8 (rBelow m), .bool (rMinus m)] 57)) (w.heap.size) 57 [.int .u8 (rAbove m), .int .u8 (rBelow m), .bool (rMinus m)] := BlkV.made' w (w.heap.size) (by simp) 57 [.int .u8 (rAbove m), .int .u8 (rBelow m), .bool (rMinus m)]
  have hF : Fwd w (w.alloc (.cells #[.int .u8 (rAbove m), .int .u8 (rBelow m), .bool (rMinus m)] 57)) := (Fwd.refl w).alloc _
  have kB : BlkV (w.alloc (.cells #[.int .u8 (rAbove m), .int .u8 (rBelow m), .bool (rMinus m)] 57)) g T [.bool s, .bool en, .int .u64 (a), .int .u64 (b), .int .i64 (x), .bool t, .bool em, .int .u64 (c), .int .u64 (d), .int .i64 (y)] := hB.fwd hF
  clear hB
  go_enter Tryd.func26, Tryd.ntmps26
  have qc0 := BlkV.cell kQ 0 rfl
  have qz0 := BlkV.frozen kQ 0
  have qc1 := BlkV.cell kQ 1 rfl
  have qz1 := BlkV.frozen kQ 1
  have qc2 := BlkV.cell kQ 2 rfl
  have qz2 := BlkV.frozen kQ 2
  have bc0 := BlkV.cell kB 0 rfl
  have bz0 := BlkV.frozen kB 0
  have bc1 := BlkV.cell kB 1 rfl
  have bz1 := BlkV.frozen kB 1
  have bc2 := BlkV.cell kB 2 rfl
  have bz2 := BlkV.frozen kB 2
  have bc3 := BlkV.cell kB 3 rfl
  have bz3 := BlkV.frozen kB 3
  have bc4 := BlkV.cell kB 4 rfl
  have bz4 := BlkV.frozen kB 4
  have bc5 := BlkV.cell kB 5 rfl
  have bz5 := BlkV.frozen kB 5
  have bc6 := BlkV.cell kB 6 rfl
  have bz6 := BlkV.frozen kB 6
  have bc7 := BlkV.cell kB 7 rfl
  have bz7 := BlkV.frozen kB 7
  have bc8 := BlkV.cell kB 8 rfl
  have bz8 := BlkV.frozen kB 8
  have bc9 := BlkV.cell kB 9 rfl
  have bz9 := BlkV.frozen kB 9
  go_wp2_with fail
  replace kQ := kQ.drew
  replace kB := kB.drew
  replace hF := hF.drew
  clear qc0 qz0 qc1 qz1 qc2 qz2
  clear bc0 bz0 bc1 bz1 bc2 bz2 bc3 bz3 bc4 bz4 bc5 bz5 bc6 bz6 bc7 bz7 bc8 bz8 bc9 bz9
  have qc0 := BlkV.cell kQ 0 rfl
  have qz0 := BlkV.frozen kQ 0
  have qc1 := BlkV.cell kQ 1 rfl
  have qz1 := BlkV.frozen kQ 1
  have qc2 := BlkV.cell kQ 2 rfl
  have qz2 := BlkV.frozen kQ 2
  have bc0 := BlkV.cell kB 0 rfl
  have bz0 := BlkV.frozen kB 0
  have bc1 := BlkV.cell kB 1 rfl
  have bz1 := BlkV.frozen kB 1
  have bc2 := BlkV.cell kB 2 rfl
  have bz2 := BlkV.frozen kB 2
  have bc3 := BlkV.cell kB 3 rfl
  have bz3 := BlkV.frozen kB 3
  have bc4 := BlkV.cell kB 4 rfl
  have bz4 := BlkV.frozen kB 4
  have bc5 := BlkV.cell kB 5 rfl
  have bz5 := BlkV.frozen kB 5
  have bc6 := BlkV.cell kB 6 rfl
  have bz6 := BlkV.frozen kB 6
  have bc7 := BlkV.cell kB 7 rfl
  have bz7 := BlkV.frozen kB 7
  have bc8 := BlkV.cell kB 8 rfl
  have bz8 := BlkV.frozen kB 8
  have bc9 := BlkV.cell kB 9 rfl
  have bz9 := BlkV.frozen kB 9
  go_region_held3 (fun w' => w'.cell? ⟨w.heap.size, 0, none⟩ = some (.int .u8 (rAbove m)) ∧ w'.cell? ⟨w.heap.size, 1, none⟩ = some (.int .u8 (rBelow m)) ∧ w'.cell? ⟨w.heap.size, 2, none⟩ = some (.bool (rMinus m)) ∧ w'.cell? ⟨g, 0, none⟩ = some (.bool s) ∧ w'.cell? ⟨g, 1, none⟩ = some (.bool en) ∧ w'.cell? ⟨g, 2, none⟩ = some (.int .u64 (a)) ∧ w'.cell? ⟨g, 3, none⟩ = some (.int .u64 (b)) ∧ w'.cell? ⟨g, 4, none⟩ = some (.int .i64 (x)) ∧ w'.cell? ⟨g, 5, none⟩ = some (.bool t) ∧ w'.cell? ⟨g, 6, none⟩ = some (.bool em) ∧ w'.cell? ⟨g, 7, none⟩ = some (.int .u64 (c)) ∧ w'.cell? ⟨g, 8, none⟩ = some (.int .u64 (d)) ∧ w'.cell? ⟨g, 9, none⟩ = some (.int .i64 (y)))
    (first | exact ⟨by with_reducible assumption, by with_reducible assumption, by with_reducible assumption, by with_reducible assumption, by with_reducible assumption, by with_reducible assumption, by with_reducible assumption, by with_reducible assumption, by with_reducible assumption, by with_reducible assumption, by with_reducible assumption, by with_reducible assumption, by with_reducible assumption⟩ | exact ⟨(farset (by simp; try omega) (farset (by simp; try omega) (farset (by simp; try omega) (farset (by simp; try omega) (farset (by simp; try omega) (by with_reducible assumption)))))), (farset (by simp; try omega) (farset (by simp; try omega) (farset (by simp; try omega) (farset (by simp; try omega) (farset (by simp; try omega) (by with_reducible assumption)))))), (farset (by simp; try omega) (farset (by simp; try omega) (farset (by simp; try omega) (farset (by simp; try omega) (farset (by simp; try omega) (by with_reducible assumption)))))), (farset (by simp; try omega) (farset (by simp; try omega) (farset (by simp; try omega) (farset (by simp; try omega) (farset (by simp; try omega) (by with_reducible assumption)))))), (farset (by simp; try omega) (farset (by simp; try omega) (farset (by simp; try omega) (farset (by simp; try omega) (farset (by simp; try omega) (by with_reducible assumption)))))), (farset (by simp; try omega) (farset (by simp; try omega) (farset (by simp; try omega) (farset (by simp; try omega) (farset (by simp; try omega) (by with_reducible assumption)))))), (farset (by simp; try omega) (farset (by simp; try omega) (farset (by simp; try omega) (farset (by simp; try omega) (farset (by simp; try omega) (by with_reducible assumption)))))), (farset (by simp; try omega) (farset (by simp; try omega) (farset (by simp; try omega) (farset (by simp; try omega) (farset (by simp; try omega) (by with_reducible assumption)))))), (farset (by simp; try omega) (farset (by simp; try omega) (farset (by simp; try omega) (farset (by simp; try omega) (farset (by simp; try omega) (by with_reducible assumption)))))), (farset (by simp; try omega) (farset (by simp; try omega) (farset (by simp; try omega) (farset (by simp; try omega) (farset (by simp; try omega) (by with_reducible assumption)))))), (farset (by simp; try omega) (farset (by simp; try omega) (farset (by simp; try omega) (farset (by simp; try omega) (farset (by simp; try omega) (by with_reducible assumption)))))), (farset (by simp; try omega) (farset (by simp; try omega) (farset (by simp; try omega) (farset (by simp; try omega) (farset (by simp; try omega) (by with_reducible assumption)))))), (farset (by simp; try omega) (farset (by simp; try omega) (farset (by simp; try omega) (farset (by simp; try omega) (farset (by simp; try omega) (by with_reducible assumption))))))⟩)
    (first
      | (go_at_call 48
         refine (ad _).mono ?_
         rintro e w1 ⟨rfl, hf1⟩
         replace kQ := kQ.fwd hf1
         replace kB := kB.fwd hf1
         replace hF := hF.trans hf1
         clear hf1
         clear qc0 qz0 qc1 qz1 qc2 qz2
         clear bc0 bz0 bc1 bz1 bc2 bz2 bc3 bz3 bc4 bz4 bc5 bz5 bc6 bz6 bc7 bz7 bc8 bz8 bc9 bz9
         have qc0 := BlkV.cell kQ 0 rfl
         have qz0 := BlkV.frozen kQ 0
         have qc1 := BlkV.cell kQ 1 rfl
         have qz1 := BlkV.frozen kQ 1
         have qc2 := BlkV.cell kQ 2 rfl
         have qz2 := BlkV.frozen kQ 2
         have bc0 := BlkV.cell kB 0 rfl
         have bz0 := BlkV.frozen kB 0
         have bc1 := BlkV.cell kB 1 rfl
         have bz1 := BlkV.frozen kB 1
         have bc2 := BlkV.cell kB 2 rfl
         have bz2 := BlkV.frozen kB 2
         have bc3 := BlkV.cell kB 3 rfl
         have bz3 := BlkV.frozen kB 3
         have bc4 := BlkV.cell kB 4 rfl
         have bz4 := BlkV.frozen kB 4
         have bc5 := BlkV.cell kB 5 rfl
         have bz5 := BlkV.frozen kB 5
         have bc6 := BlkV.cell kB 6 rfl
         have bz6 := BlkV.frozen kB 6
         have bc7 := BlkV.cell kB 7 rfl
         have bz7 := BlkV.frozen kB 7
         have bc8 := BlkV.cell kB 8 rfl
         have bz8 := BlkV.frozen kB 8
         have bc9 := BlkV.cell kB 9 rfl
         have bz9 := BlkV.frozen kB 9))
  go_wp2
  go_ret2
  exact ⟨ret_pair rfl rfl, hF⟩

set_option maxHeartbeats 8000000 in
set_option maxRecDepth 100000 in
theorem product_of {w : World} {g : Nat} {T : TypeId} {s en t em : Bool} {a b n c d k : Nat} {x y : Int} (m : Int) (hn : VV (.agg #[.bool s, .bool en, .int .u64 (a), .int .u64 (b), .int .i64 (x)]) s en n x) (hk : VV (.agg #[.bool t, .bool em, .int .u64 (c), .int .u64 (d), .int .i64 (y)]) t em k y) (hB : BlkV w g T [.bool s, .bool en, .int .u64 (a), .int .u64 (b), .int .i64 (x), .bool t, .bool em, .int .u64 (c), .int .u64 (d), .int .i64 (y)]) (hn0 : n < 9007199254740992) (hn1 : -10000 ≤ x) (hn2 : x ≤ 10000) (hk0 : k < 9007199254740992) (hk1 : -10000 ≤ y) (hk2 : y ≤ 10000) :
    Calls Tryd.prog 27 #[ruleV m, .slice (some ⟨g, 0, none⟩) 2 2] w fun e w' => e = .returned (.tuple #[.int .u64 ((withMul (mulV (s, en, n, x) (t, em, k, y)) (rdV m)).1 : Nat), .int .i64 ((withMul (mulV (s, en, n, x) (t, em, k, y)) (rdV m)).2 : Nat)]) ∧ Fwd w w' := by
  have mu := fun w => multiply_any (w := w) hn hk (by omega) (by omega) (by omega) (by omega) (by omega) (by omega)
  have hb : blen ((mulV (s, en, n, x) (t, em, k, y)).getD (false, false, 0, 0)).2.2.1 ≤ 127 ∧ -20000 ≤ ((mulV (s, en, n, x) (t, em, k, y)).getD (false, false, 0, 0)).2.2.2 ∧ ((mulV (s, en, n, x) (t, em, k, y)).getD (false, false, 0, 0)).2.2.2 ≤ 20000 := mulV_small hn0 hk0 (by omega) (by omega) (by omega) (by omega)
  have HV : Hid (withMul (mulV (s, en, n, x) (t, em, k, y)) (rdV m) = if (mulV (s, en, n, x) (t, em, k, y)).isSome then rdV m ((mulV (s, en, n, x) (t, em, k, y)).getD (false, false, 0, 0)) else ((9221120237041090560 : Nat), (16 : Nat))) := hid (by cases mulV (s, en, n, x) (t, em, k, y) <;> rfl)
  generalize withMul (mulV (s, en, n, x) (t, em, k, y)) (rdV m) = Z at *
  generalize (mulV (s, en, n, x) (t, em, k, y)).getD (false, false, 0, 0) = P at *
  generalize (mulV (s, en, n, x) (t, em, k, y)).isSome = is at *
  obtain ⟨ps, pe, pn, px⟩ := P
  obtain ⟨z1, z2⟩ := Z
  simp only at hb HV
  have hlt := BlkV.lt hB
  unfold ruleV
  have kQ : BlkV (w.alloc (.cells #[.int .u8 (rAbove m), .int .u8 (rBelow m), .bool (rMinus m)] 57)) (w.heap.size) 57 [.int .u8 (rAbove m), .int .u8 (rBelow m), .bool (rMinus m)] := BlkV.made' w (w.heap.size) (by simp) 57 [.int .u8 (rAbove m), .int .u8 (rBelow m), .bool (rMinus m)]
  have hF : Fwd w (w.alloc (.cells #[.int .u8 (rAbove m), .int .u8 (rBelow m), .bool (rMinus m)] 57)) := (Fwd.refl w).alloc _
  have kB : BlkV (w.alloc (.cells #[.int .u8 (rAbove m), .int .u8 (rBelow m), .bool (rMinus m)] 57)) g T [.bool s, .bool en, .int .u64 (a), .int .u64 (b), .int .i64 (x), .bool t, .bool em, .int .u64 (c), .int .u64 (d), .int .i64 (y)] := hB.fwd hF
  clear hB
  go_enter Tryd.func27, Tryd.ntmps27
  have qc0 := BlkV.cell kQ 0 rfl
  have qz0 := BlkV.frozen kQ 0
  have qc1 := BlkV.cell kQ 1 rfl
  have qz1 := BlkV.frozen kQ 1
  have qc2 := BlkV.cell kQ 2 rfl
  have qz2 := BlkV.frozen kQ 2
  have bc0 := BlkV.cell kB 0 rfl
  have bz0 := BlkV.frozen kB 0
  have bc1 := BlkV.cell kB 1 rfl
  have bz1 := BlkV.frozen kB 1
  have bc2 := BlkV.cell kB 2 rfl
  have bz2 := BlkV.frozen kB 2
  have bc3 := BlkV.cell kB 3 rfl
  have bz3 := BlkV.frozen kB 3
  have bc4 := BlkV.cell kB 4 rfl
  have bz4 := BlkV.frozen kB 4
  have bc5 := BlkV.cell kB 5 rfl
  have bz5 := BlkV.frozen kB 5
  have bc6 := BlkV.cell kB 6 rfl
  have bz6 := BlkV.frozen kB 6
  have bc7 := BlkV.cell kB 7 rfl
  have bz7 := BlkV.frozen kB 7
  have bc8 := BlkV.cell kB 8 rfl
  have bz8 := BlkV.frozen kB 8
  have bc9 := BlkV.cell kB 9 rfl
  have bz9 := BlkV.frozen kB 9
  go_upto_region 1 with fail
  go_cut [6, 7] (fun pX qX wx => ∃ (gx a' b' : Nat), pX = .pointer (some ⟨gx, 0, none⟩) ∧ qX = .bool is ∧ w.heap.size + 1 ≤ gx ∧ (a' < 18446744073709551616 ∧ b' < 18446744073709551616 ∧ Hid (pn = a' * 18446744073709551616 + b')) ∧ BlkV wx gx 65 [.bool ps, .bool pe, .int .u64 (a'), .int .u64 (b'), .int .i64 (px)] ∧ BlkV wx w.heap.size 57 [.int .u8 (rAbove m), .int .u8 (rBelow m), .bool (rMinus m)] ∧ BlkV wx g T [.bool s, .bool en, .int .u64 (a), .int .u64 (b), .int .i64 (x), .bool t, .bool em, .int .u64 (c), .int .u64 (d), .int .i64 (y)] ∧ Fwd w wx)
  case first =>
    replace kQ := kQ.drew
    replace kB := kB.drew
    replace hF := hF.drew
    clear qc0 qz0 qc1 qz1 qc2 qz2
    clear bc0 bz0 bc1 bz1 bc2 bz2 bc3 bz3 bc4 bz4 bc5 bz5 bc6 bz6 bc7 bz7 bc8 bz8 bc9 bz9
    have qc0 := BlkV.cell kQ 0 rfl
    have qc1 := BlkV.cell kQ 1 rfl
    have qc2 := BlkV.cell kQ 2 rfl
    have bc0 := BlkV.cell kB 0 rfl
    have bc1 := BlkV.cell kB 1 rfl
    have bc2 := BlkV.cell kB 2 rfl
    have bc3 := BlkV.cell kB 3 rfl
    have bc4 := BlkV.cell kB 4 rfl
    have bc5 := BlkV.cell kB 5 rfl
    have bc6 := BlkV.cell kB 6 rfl
    have bc7 := BlkV.cell kB 7 rfl
    have bc8 := BlkV.cell kB 8 rfl
    have bc9 := BlkV.cell kB 9 rfl
    have neQ : w.heap.size ≠ w.heap.size + 1 := by omega
    have neB : g ≠ w.heap.size + 1 := by omega
    go_region_held3 (fun w' => w'.cell? ⟨w.heap.size, 0, none⟩ = some (.int .u8 (rAbove m)) ∧ w'.cell? ⟨w.heap.size, 1, none⟩ = some (.int .u8 (rBelow m)) ∧ w'.cell? ⟨w.heap.size, 2, none⟩ = some (.bool (rMinus m)) ∧ w'.cell? ⟨g, 0, none⟩ = some (.bool s) ∧ w'.cell? ⟨g, 1, none⟩ = some (.bool en) ∧ w'.cell? ⟨g, 2, none⟩ = some (.int .u64 (a)) ∧ w'.cell? ⟨g, 3, none⟩ = some (.int .u64 (b)) ∧ w'.cell? ⟨g, 4, none⟩ = some (.int .i64 (x)) ∧ w'.cell? ⟨g, 5, none⟩ = some (.bool t) ∧ w'.cell? ⟨g, 6, none⟩ = some (.bool em) ∧ w'.cell? ⟨g, 7, none⟩ = some (.int .u64 (c)) ∧ w'.cell? ⟨g, 8, none⟩ = some (.int .u64 (d)) ∧ w'.cell? ⟨g, 9, none⟩ = some (.int .i64 (y)))
      (refine ⟨?_, ?_, ?_, ?_, ?_, ?_, ?_, ?_, ?_, ?_, ?_, ?_, ?_⟩ <;> first | with_reducible assumption | with_reducible exact Fwd.cell ((Fwd.refl _).alloc _) (by with_reducible assumption) | with_reducible exact cell_drew_alloc' (by with_reducible assumption) | exact farset5 neQ (by with_reducible assumption) | exact farset5 neB (by with_reducible assumption))
      (first
        | (go_at_call 49
           refine (mu _).mono ?_
           rintro e w1 ⟨r, rfl, hf, a', b', rfl, p1, p2, hp⟩
           have HP := hid hp
           clear hp
           first
           | (have hfJ : Fwd (w.alloc (.cells #[.int .u8 (rAbove m), .int .u8 (rBelow m), .bool (rMinus m)] 57)).drew ((w.alloc (.cells #[.int .u8 (rAbove m), .int .u8 (rBelow m), .bool (rMinus m)] 57)).alloc (.cells #[.bool false, .bool false, .int .u64 0, .int .u64 0, .int .i64 0] 65)).drew := ((Fwd.refl _).alloc _).undrew'.drew
              have kJ := (BlkV.drew (BlkV.made' (w.alloc (.cells #[.int .u8 (rAbove m), .int .u8 (rBelow m), .bool (rMinus m)] 57)) (w.heap.size + 1) (by simp) 65 [.bool false, .bool false, .int .u64 0, .int .u64 0, .int .i64 0])).fwd hf
              replace hf := hfJ.trans hf
              clear hfJ
              replace kQ := kQ.fwd hf
              replace kB := kB.fwd hf
              replace hF := hF.trans hf
              clear hf
              clear qc0 qc1 qc2
              clear bc0 bc1 bc2 bc3 bc4 bc5 bc6 bc7 bc8 bc9
              have qc0 := BlkV.cell kQ 0 rfl
              have qc1 := BlkV.cell kQ 1 rfl
              have qc2 := BlkV.cell kQ 2 rfl
              have bc0 := BlkV.cell kB 0 rfl
              have bc1 := BlkV.cell kB 1 rfl
              have bc2 := BlkV.cell kB 2 rfl
              have bc3 := BlkV.cell kB 3 rfl
              have bc4 := BlkV.cell kB 4 rfl
              have bc5 := BlkV.cell kB 5 rfl
              have bc6 := BlkV.cell kB 6 rfl
              have bc7 := BlkV.cell kB 7 rfl
              have bc8 := BlkV.cell kB 8 rfl
              have bc9 := BlkV.cell kB 9 rfl
              have jc0 := BlkV.cell kJ 0 rfl
              have jc1 := BlkV.cell kJ 1 rfl
              have jc2 := BlkV.cell kJ 2 rfl
              have jc3 := BlkV.cell kJ 3 rfl
              have jc4 := BlkV.cell kJ 4 rfl
              have jz0 := BlkV.frozen kJ 0
              have jz1 := BlkV.frozen kJ 1
              have jz2 := BlkV.frozen kJ 2
              have jz3 := BlkV.frozen kJ 3
              have jz4 := BlkV.frozen kJ 4)
           | (replace kQ := kQ.fwd hf
              replace kB := kB.fwd hf
              replace hF := hF.trans hf
              clear hf
              clear qc0 qc1 qc2
              clear bc0 bc1 bc2 bc3 bc4 bc5 bc6 bc7 bc8 bc9
              have qc0 := BlkV.cell kQ 0 rfl
              have qc1 := BlkV.cell kQ 1 rfl
              have qc2 := BlkV.cell kQ 2 rfl
              have bc0 := BlkV.cell kB 0 rfl
              have bc1 := BlkV.cell kB 1 rfl
              have bc2 := BlkV.cell kB 2 rfl
              have bc3 := BlkV.cell kB 3 rfl
              have bc4 := BlkV.cell kB 4 rfl
              have bc5 := BlkV.cell kB 5 rfl
              have bc6 := BlkV.cell kB 6 rfl
              have bc7 := BlkV.cell kB 7 rfl
              have bc8 := BlkV.cell kB 8 rfl
              have bc9 := BlkV.cell kB 9 rfl
              have ltQ := BlkV.lt kQ
              have ltB := BlkV.lt kB)))
    all_goals
      first
      | (have _ := kJ
         have hz := ((((BlkV.set kJ 0 (.bool ps)).set 1 (.bool pe)).set 2 (.int .u64 (a'))).set 3 (.int .u64 (b'))).set 4 (.int .i64 (px))
         have hon := ((((BlkV.on kJ 0 (.bool ps)).setv 1 (.bool pe)).setv 2 (.int .u64 (a'))).setv 3 (.int .u64 (b'))).setv 4 (.int .i64 (px))
         replace kQ := BlkV.only kQ hon (by omega)
         replace kB := BlkV.only kB hon (by omega)
         replace hF := hF.wrote hon (by omega)
         go_wp2_with fail
         go_meet
         exact ⟨_, a', b', rfl, rfl, by omega, ⟨p1, p2, HP⟩, hz, kQ, kB, hF⟩)
      | (have hsz := hF.size
         have hltQ := BlkV.lt kQ
         have hfJ : Fwd w1 (w1.alloc (.cells #[.bool ps, .bool pe, .int .u64 (a'), .int .u64 (b'), .int .i64 (px)] 65)) := (Fwd.refl _).alloc _
         have hz := BlkV.made w1 65 [.bool ps, .bool pe, .int .u64 (a'), .int .u64 (b'), .int .i64 (px)]
         replace kQ := kQ.fwd hfJ
         replace kB := kB.fwd hfJ
         replace hF := hF.trans hfJ
         go_wp2_with fail
         go_meet
         exact ⟨_, a', b', rfl, rfl, by omega, ⟨p1, p2, HP⟩, hz, kQ, kB, hF⟩)
  case rest =>
  clear hF kQ kB mu qc0 qz0 qc1 qz1 qc2 qz2 bc0 bz0 bc1 bz1 bc2 bz2 bc3 bz3 bc4 bz4 bc5 bz5 bc6 bz6 bc7 bz7 bc8 bz8 bc9 bz9
  obtain ⟨gx, a', b', rfl, rfl, hgx, ⟨p1, p2, HP⟩, kX, kQ, kB, hF⟩ := hcut
  have qc0 := BlkV.cell kQ 0 rfl
  have qz0 := BlkV.frozen kQ 0
  have qc1 := BlkV.cell kQ 1 rfl
  have qz1 := BlkV.frozen kQ 1
  have qc2 := BlkV.cell kQ 2 rfl
  have qz2 := BlkV.frozen kQ 2
  have bc0 := BlkV.cell kB 0 rfl
  have bz0 := BlkV.frozen kB 0
  have bc1 := BlkV.cell kB 1 rfl
  have bz1 := BlkV.frozen kB 1
  have bc2 := BlkV.cell kB 2 rfl
  have bz2 := BlkV.frozen kB 2
  have bc3 := BlkV.cell kB 3 rfl
  have bz3 := BlkV.frozen kB 3
  have bc4 := BlkV.cell kB 4 rfl
  have bz4 := BlkV.frozen kB 4
  have bc5 := BlkV.cell kB 5 rfl
  have bz5 := BlkV.frozen kB 5
  have bc6 := BlkV.cell kB 6 rfl
  have bz6 := BlkV.frozen kB 6
  have bc7 := BlkV.cell kB 7 rfl
  have bz7 := BlkV.frozen kB 7
  have bc8 := BlkV.cell kB 8 rfl
  have bz8 := BlkV.frozen kB 8
  have bc9 := BlkV.cell kB 9 rfl
  have bz9 := BlkV.frozen kB 9
  have xc0 := BlkV.cell kX 0 rfl
  have xz0 := BlkV.frozen kX 0
  have xc1 := BlkV.cell kX 1 rfl
  have xz1 := BlkV.frozen kX 1
  have xc2 := BlkV.cell kX 2 rfl
  have xz2 := BlkV.frozen kX 2
  have xc3 := BlkV.cell kX 3 rfl
  have xz3 := BlkV.frozen kX 3
  have xc4 := BlkV.cell kX 4 rfl
  have xz4 := BlkV.frozen kX 4
  cases is
  · have hz := HV.out
    simp only [Bool.false_eq_true, if_false, Prod.mk.injEq] at hz
    obtain ⟨rfl, rfl⟩ := hz
    go_wp2
    go_ret2
    exact ⟨ret_pair rfl rfl, hF⟩
  · have rr := fun w => round_any (w := w) (v := .agg #[.bool ps, .bool pe, .int .u64 (a'), .int .u64 (b'), .int .i64 (px)]) (s := ps) (en := pe) (n := pn) (x := px) m ⟨a', b', rfl, p1, p2, HP.out⟩ (by omega) (by omega)
    have hz := HV.out
    simp only [if_true] at hz
    rw [← hz] at rr
    clear hz
    unfold ruleV at rr
    go_wp2_with fail
    refine (rr _).mono ?_
    rintro e w1 ⟨rfl, hf1⟩
    replace kQ := kQ.fwd hf1
    replace kB := kB.fwd hf1
    replace kX := kX.fwd hf1
    replace hF := hF.trans hf1
    clear hf1
    clear qc0 qz0 qc1 qz1 qc2 qz2
    clear bc0 bz0 bc1 bz1 bc2 bz2 bc3 bz3 bc4 bz4 bc5 bz5 bc6 bz6 bc7 bz7 bc8 bz8 bc9 bz9
    clear xc0 xz0 xc1 xz1 xc2 xz2 xc3 xz3 xc4 xz4
    have qc0 := BlkV.cell kQ 0 rfl
    have qz0 := BlkV.frozen kQ 0
    have qc1 := BlkV.cell kQ 1 rfl
    have qz1 := BlkV.frozen kQ 1
    have qc2 := BlkV.cell kQ 2 rfl
    have qz2 := BlkV.frozen kQ 2
    have bc0 := BlkV.cell kB 0 rfl
    have bz0 := BlkV.frozen kB 0
    have bc1 := BlkV.cell kB 1 rfl
    have bz1 := BlkV.frozen kB 1
    have bc2 := BlkV.cell kB 2 rfl
    have bz2 := BlkV.frozen kB 2
    have bc3 := BlkV.cell kB 3 rfl
    have bz3 := BlkV.frozen kB 3
    have bc4 := BlkV.cell kB 4 rfl
    have bz4 := BlkV.frozen kB 4
    have bc5 := BlkV.cell kB 5 rfl
    have bz5 := BlkV.frozen kB 5
    have bc6 := BlkV.cell kB 6 rfl
    have bz6 := BlkV.frozen kB 6
    have bc7 := BlkV.cell kB 7 rfl
    have bz7 := BlkV.frozen kB 7
    have bc8 := BlkV.cell kB 8 rfl
    have bz8 := BlkV.frozen kB 8
    have bc9 := BlkV.cell kB 9 rfl
    have bz9 := BlkV.frozen kB 9
    have xc0 := BlkV.cell kX 0 rfl
    have xz0 := BlkV.frozen kX 0
    have xc1 := BlkV.cell kX 1 rfl
    have xz1 := BlkV.frozen kX 1
    have xc2 := BlkV.cell kX 2 rfl
    have xz2 := BlkV.frozen kX 2
    have xc3 := BlkV.cell kX 3 rfl
    have xz3 := BlkV.frozen kX 3
    have xc4 := BlkV.cell kX 4 rfl
    have xz4 := BlkV.frozen kX 4
    go_wp2
    go_ret2
    exact ⟨ret_pair rfl rfl, hF⟩

end Go.Proofs.YtbhehgodnfcdgaaDoor
