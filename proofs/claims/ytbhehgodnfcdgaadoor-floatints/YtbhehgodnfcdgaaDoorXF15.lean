/- sfloat's quotient. -/
import Derived.Test.YtbhehgodnfcdgaaDoorXF12
namespace Go.Proofs.YtbhehgodnfcdgaaDoor
open Go.RowKit
set_option linter.unusedVariables false
set_option linter.unusedSimpArgs false

/-- A quotient, rounded: o is the quotient of what is finite and not nought. -/
def divV (m : Int) (v w o : Bool × Bool × Nat × Int) : Nat × Nat :=
  if (v.2.1 = true ∧ w.2.1 = true) ∨ ((v.2.1 = false ∧ v.2.2.1 = 0) ∧ w.2.1 = false ∧ w.2.2.1 = 0) then (9221120237041090560, 16) else
  if v.2.1 = true then rdV m (v.1 != w.1, true, 0, 0) else
  if w.2.1 = true ∨ v.2.2.1 = 0 then rdV m (v.1 != w.1, false, 0, 0) else
  if w.2.2.1 = 0 then ((rdV m (v.1 != w.1, true, 0, 0)).1, 8) else rdV m o

set_option maxHeartbeats 8000000 in
set_option maxRecDepth 100000 in
theorem quotient_of {w : World} {g : Nat} {T : TypeId} {s en t em : Bool} {a b n c d k : Nat} {x y : Int} (m : Int) (o : Bool × Bool × Nat × Int) (ho : -1000000 ≤ o.2.2.2 ∧ o.2.2.2 ≤ 1000000) (hov : en = false → em = false → n ≠ 0 → k ≠ 0 → ∀ w, Calls Tryd.prog 51 #[.agg #[.bool s, .bool en, .int .u64 (a), .int .u64 (b), .int .i64 (x)], .agg #[.bool t, .bool em, .int .u64 (c), .int .u64 (d), .int .i64 (y)]] w fun e w' => ∃ r, e = .returned r ∧ Fwd w w' ∧ VT r o) (hn : VV (.agg #[.bool s, .bool en, .int .u64 (a), .int .u64 (b), .int .i64 (x)]) s en n x) (hk : VV (.agg #[.bool t, .bool em, .int .u64 (c), .int .u64 (d), .int .i64 (y)]) t em k y) (hB : BlkV w g T [.bool s, .bool en, .int .u64 (a), .int .u64 (b), .int .i64 (x), .bool t, .bool em, .int .u64 (c), .int .u64 (d), .int .i64 (y)]) (hn0 : n < 9007199254740992) (hn1 : -10000 ≤ x) (hn2 : x ≤ 10000) (hk0 : k < 9007199254740992) (hk1 : -10000 ≤ y) (hk2 : y ≤ 10000) :
    Calls Tryd.prog 28 #[ruleV m, .slice (some ⟨g, 0, none⟩) 2 2] w fun e w' => e = .returned (.tuple #[.int .u64 ((divV m (s, en, n, x) (t, em, k, y) o).1 : Nat), .int .i64 ((divV m (s, en, n, x) (t, em, k, y) o).2 : Nat)]) ∧ Fwd w w' := by
  have na := fun w => visNought_any (w := w) hn
  have nb := fun w => visNought_any (w := w) hk
  have ri := fun w => round_any (w := w) (v := .agg #[.bool (s != t), .bool true, .int .u64 ((0 : Nat) : Int), .int .u64 ((0 : Nat) : Int), .int .i64 0]) (s := s != t) (en := true) (n := 0) (x := 0) m ⟨0, 0, rfl, by omega, by omega, rfl⟩ (by omega) (by omega)
  have rz := fun w => round_any (w := w) (v := .agg #[.bool (s != t), .bool false, .int .u64 ((0 : Nat) : Int), .int .u64 ((0 : Nat) : Int), .int .i64 0]) (s := s != t) (en := false) (n := 0) (x := 0) m ⟨0, 0, rfl, by omega, by omega, rfl⟩ (by omega) (by omega)
  unfold ruleV at ri rz
  have i2 : (!(s == t)) = (s != t) := rfl
  have hlt := BlkV.lt hB
  unfold ruleV
  have kQ : BlkV (w.alloc (.cells #[.int .u8 (rAbove m), .int .u8 (rBelow m), .bool (rMinus m)] 57)) (w.heap.size) 57 [.int .u8 (rAbove m), .int .u8 (rBelow m), .bool (rMinus m)] := BlkV.made' w (w.heap.size) (by simp) 57 [.int .u8 (rAbove m), .int .u8 (rBelow m), .bool (rMinus m)]
  have hF : Fwd w (w.alloc (.cells #[.int .u8 (rAbove m), .int .u8 (rBelow m), .bool (rMinus m)] 57)) := (Fwd.refl w).alloc _
  have kB : BlkV (w.alloc (.cells #[.int .u8 (rAbove m), .int .u8 (rBelow m), .bool (rMinus m)] 57)) g T [.bool s, .bool en, .int .u64 (a), .int .u64 (b), .int .i64 (x), .bool t, .bool em, .int .u64 (c), .int .u64 (d), .int .i64 (y)] := hB.fwd hF
  clear hB
  go_enter Tryd.func28, Tryd.ntmps28
  have qc0 := BlkV.cell kQ 0 rfl
  have qz0 := BlkV.frozen kQ 0
  have qc1 := BlkV.cell kQ 1 rfl
  have qz1 := BlkV.frozen kQ 1
  have qc2 := BlkV.cell kQ 2 rfl
  have qz2 := BlkV.frozen kQ 2
  have bc0 := BlkV.cell kB 0 rfl
  have bz0 := BlkV.frozen kB 0
  have bc1 := BlkV.cell kB 1 rfl
  have bz1 := BlkV.frozen kB 1
  have bc2 := BlkV.cell kB 2 rfl
  have bz2 := BlkV.frozen kB 2
  have bc3 := BlkV.cell kB 3 rfl
  have bz3 := BlkV.frozen kB 3
  have bc4 := BlkV.cell kB 4 rfl
  have bz4 := BlkV.frozen kB 4
  have bc5 := BlkV.cell kB 5 rfl
  have bz5 := BlkV.frozen kB 5
  have bc6 := BlkV.cell kB 6 rfl
  have bz6 := BlkV.frozen kB 6
  have bc7 := BlkV.cell kB 7 rfl
  have bz7 := BlkV.frozen kB 7
  have bc8 := BlkV.cell kB 8 rfl
  have bz8 := BlkV.frozen kB 8
  have bc9 := BlkV.cell kB 9 rfl
  have bz9 := BlkV.frozen kB 9
  go_upto_region 1 with fail
  go_cut [6, 7] (fun pX qX wx => ∃ (gA gB : Nat), pX = .pointer (some ⟨gA, 0, none⟩) ∧ qX = .pointer (some ⟨gB, 0, none⟩) ∧ gA ≠ gB ∧ w.heap.size + 1 ≤ gA ∧ w.heap.size + 1 ≤ gB ∧ BlkV wx gA 65 [.bool s, .bool en, .int .u64 (a), .int .u64 (b), .int .i64 (x)] ∧ BlkV wx gB 65 [.bool t, .bool em, .int .u64 (c), .int .u64 (d), .int .i64 (y)] ∧ BlkV wx w.heap.size 57 [.int .u8 (rAbove m), .int .u8 (rBelow m), .bool (rMinus m)] ∧ Fwd w wx)
  case first =>
    replace kQ := kQ.drew
    replace kB := kB.drew
    replace hF := hF.drew
    clear qc0 qz0 qc1 qz1 qc2 qz2
    clear bc0 bz0 bc1 bz1 bc2 bz2 bc3 bz3 bc4 bz4 bc5 bz5 bc6 bz6 bc7 bz7 bc8 bz8 bc9 bz9
    have qc0 := BlkV.cell kQ 0 rfl
    have qc1 := BlkV.cell kQ 1 rfl
    have qc2 := BlkV.cell kQ 2 rfl
    have bc0 := BlkV.cell kB 0 rfl
    have bc1 := BlkV.cell kB 1 rfl
    have bc2 := BlkV.cell kB 2 rfl
    have bc3 := BlkV.cell kB 3 rfl
    have bc4 := BlkV.cell kB 4 rfl
    have bc5 := BlkV.cell kB 5 rfl
    have bc6 := BlkV.cell kB 6 rfl
    have bc7 := BlkV.cell kB 7 rfl
    have bc8 := BlkV.cell kB 8 rfl
    have bc9 := BlkV.cell kB 9 rfl
    have ne1 : g ≠ w.heap.size + 1 := by omega
    have ne2 : g ≠ w.heap.size + 1 + 1 := by omega
    go_region_held3 (fun w' => w'.cell? ⟨g, 0, none⟩ = some (.bool s) ∧ w'.cell? ⟨g, 1, none⟩ = some (.bool en) ∧ w'.cell? ⟨g, 2, none⟩ = some (.int .u64 (a)) ∧ w'.cell? ⟨g, 3, none⟩ = some (.int .u64 (b)) ∧ w'.cell? ⟨g, 4, none⟩ = some (.int .i64 (x)) ∧ w'.cell? ⟨g, 5, none⟩ = some (.bool t) ∧ w'.cell? ⟨g, 6, none⟩ = some (.bool em) ∧ w'.cell? ⟨g, 7, none⟩ = some (.int .u64 (c)) ∧ w'.cell? ⟨g, 8, none⟩ = some (.int .u64 (d)) ∧ w'.cell? ⟨g, 9, none⟩ = some (.int .i64 (y)))
      (refine ⟨?_, ?_, ?_, ?_, ?_, ?_, ?_, ?_, ?_, ?_⟩ <;> first | with_reducible assumption | with_reducible exact Fwd.cell ((Fwd.refl _).alloc _) (by with_reducible assumption) | with_reducible exact cell_drew_alloc' (by with_reducible assumption) | with_reducible exact cell_drew_alloc' (cell_drew_alloc' (by with_reducible assumption)) | exact farset5 ne1 (by with_reducible assumption) | exact farset5 ne2 (by with_reducible assumption))
      (fail)
    all_goals (go_wp2_with fail; go_meet)
    · exact ⟨_, _, rfl, rfl, by omega, by omega, by omega, BlkV.drew ((BlkV.made' (w.alloc (.cells #[.int .u8 (rAbove m), .int .u8 (rBelow m), .bool (rMinus m)] 57)) (w.heap.size + 1) (by simp) 65 [.bool s, .bool en, .int .u64 (a), .int .u64 (b), .int .i64 (x)]).alloc _), BlkV.drew (BlkV.made' ((w.alloc (.cells #[.int .u8 (rAbove m), .int .u8 (rBelow m), .bool (rMinus m)] 57)).alloc (.cells #[.bool s, .bool en, .int .u64 (a), .int .u64 (b), .int .i64 (x)] 65)) (w.heap.size + 1 + 1) (by simp) 65 [.bool t, .bool em, .int .u64 (c), .int .u64 (d), .int .i64 (y)]), BlkV.drew (((BlkV.made w 57 [.int .u8 (rAbove m), .int .u8 (rBelow m), .bool (rMinus m)]).alloc _).alloc _), ((((Fwd.refl w).alloc _).alloc _).alloc _).drew⟩
    · exact ⟨_, _, rfl, rfl, by omega, by omega, by omega, BlkV.drew (BlkV.made' ((w.alloc (.cells #[.int .u8 (rAbove m), .int .u8 (rBelow m), .bool (rMinus m)] 57)).alloc (.cells #[.bool t, .bool em, .int .u64 (c), .int .u64 (d), .int .i64 (y)] 65)) (w.heap.size + 1 + 1) (by simp) 65 [.bool s, .bool en, .int .u64 (a), .int .u64 (b), .int .i64 (x)]), BlkV.drew ((BlkV.made' (w.alloc (.cells #[.int .u8 (rAbove m), .int .u8 (rBelow m), .bool (rMinus m)] 57)) (w.heap.size + 1) (by simp) 65 [.bool t, .bool em, .int .u64 (c), .int .u64 (d), .int .i64 (y)]).alloc _), BlkV.drew (((BlkV.made w 57 [.int .u8 (rAbove m), .int .u8 (rBelow m), .bool (rMinus m)]).alloc _).alloc _), ((((Fwd.refl w).alloc _).alloc _).alloc _).drew⟩
  case rest =>
  clear hF kQ kB hlt qc0 qz0 qc1 qz1 qc2 qz2 bc0 bz0 bc1 bz1 bc2 bz2 bc3 bz3 bc4 bz4 bc5 bz5 bc6 bz6 bc7 bz7 bc8 bz8 bc9 bz9
  obtain ⟨gA, gB, rfl, rfl, hAB, hgA, hgB, kA, kB, kQ, hF⟩ := hcut
  have qc0 := BlkV.cell kQ 0 rfl
  have qc1 := BlkV.cell kQ 1 rfl
  have qc2 := BlkV.cell kQ 2 rfl
  have ac0 := BlkV.cell kA 0 rfl
  have ac1 := BlkV.cell kA 1 rfl
  have ac2 := BlkV.cell kA 2 rfl
  have ac3 := BlkV.cell kA 3 rfl
  have ac4 := BlkV.cell kA 4 rfl
  have bc0 := BlkV.cell kB 0 rfl
  have bc1 := BlkV.cell kB 1 rfl
  have bc2 := BlkV.cell kB 2 rfl
  have bc3 := BlkV.cell kB 3 rfl
  have bc4 := BlkV.cell kB 4 rfl
  cases en <;> cases em
  · by_cases cn : n = 0
    · by_cases ck : k = 0
      · have HV : Hid (divV m (s, false, n, x) (t, false, k, y) o = (9221120237041090560, 16)) := hid (by simp [divV, cn, ck])
        have ena : (!false && n == 0) = true := by simp [cn]
        simp only [ena] at na
        clear ena
        have enb : (!false && k == 0) = true := by simp [ck]
        simp only [enb] at nb
        clear enb
        clear hov
        clear cn
        clear ck
        clear ri rz
        go_wp2_with fail
        refine (na _).mono ?_
        rintro e w1 ⟨rfl, hf1⟩
        replace kQ := kQ.fwd hf1
        replace kA := kA.fwd hf1
        replace kB := kB.fwd hf1
        replace hF := hF.trans hf1
        clear hf1
        clear qc0 qc1 qc2
        clear ac0 ac1 ac2 ac3 ac4
        clear bc0 bc1 bc2 bc3 bc4
        have qc0 := BlkV.cell kQ 0 rfl
        have qz0 := BlkV.frozen kQ 0
        have qc1 := BlkV.cell kQ 1 rfl
        have qz1 := BlkV.frozen kQ 1
        have qc2 := BlkV.cell kQ 2 rfl
        have qz2 := BlkV.frozen kQ 2
        have ac0 := BlkV.cell kA 0 rfl
        have az0 := BlkV.frozen kA 0
        have ac1 := BlkV.cell kA 1 rfl
        have az1 := BlkV.frozen kA 1
        have ac2 := BlkV.cell kA 2 rfl
        have az2 := BlkV.frozen kA 2
        have ac3 := BlkV.cell kA 3 rfl
        have az3 := BlkV.frozen kA 3
        have ac4 := BlkV.cell kA 4 rfl
        have az4 := BlkV.frozen kA 4
        have bc0 := BlkV.cell kB 0 rfl
        have bz0 := BlkV.frozen kB 0
        have bc1 := BlkV.cell kB 1 rfl
        have bz1 := BlkV.frozen kB 1
        have bc2 := BlkV.cell kB 2 rfl
        have bz2 := BlkV.frozen kB 2
        have bc3 := BlkV.cell kB 3 rfl
        have bz3 := BlkV.frozen kB 3
        have bc4 := BlkV.cell kB 4 rfl
        have bz4 := BlkV.frozen kB 4
        go_wp2_with fail
        refine (nb _).mono ?_
        rintro e w2 ⟨rfl, hf2⟩
        replace kQ := kQ.fwd hf2
        replace kA := kA.fwd hf2
        replace kB := kB.fwd hf2
        replace hF := hF.trans hf2
        clear hf2
        clear qc0 qz0 qc1 qz1 qc2 qz2
        clear ac0 az0 ac1 az1 ac2 az2 ac3 az3 ac4 az4
        clear bc0 bz0 bc1 bz1 bc2 bz2 bc3 bz3 bc4 bz4
        have qc0 := BlkV.cell kQ 0 rfl
        have qz0 := BlkV.frozen kQ 0
        have qc1 := BlkV.cell kQ 1 rfl
        have qz1 := BlkV.frozen kQ 1
        have qc2 := BlkV.cell kQ 2 rfl
        have qz2 := BlkV.frozen kQ 2
        have ac0 := BlkV.cell kA 0 rfl
        have az0 := BlkV.frozen kA 0
        have ac1 := BlkV.cell kA 1 rfl
        have az1 := BlkV.frozen kA 1
        have ac2 := BlkV.cell kA 2 rfl
        have az2 := BlkV.frozen kA 2
        have ac3 := BlkV.cell kA 3 rfl
        have az3 := BlkV.frozen kA 3
        have ac4 := BlkV.cell kA 4 rfl
        have az4 := BlkV.frozen kA 4
        have bc0 := BlkV.cell kB 0 rfl
        have bz0 := BlkV.frozen kB 0
        have bc1 := BlkV.cell kB 1 rfl
        have bz1 := BlkV.frozen kB 1
        have bc2 := BlkV.cell kB 2 rfl
        have bz2 := BlkV.frozen kB 2
        have bc3 := BlkV.cell kB 3 rfl
        have bz3 := BlkV.frozen kB 3
        have bc4 := BlkV.cell kB 4 rfl
        have bz4 := BlkV.frozen kB 4
        go_wp2
        go_ret2
        exact ⟨ret_pair (by rw [HV.out]; rfl) (by rw [HV.out]; rfl), hF⟩
      · have HV : Hid (divV m (s, false, n, x) (t, false, k, y) o = rdV m (s != t, false, 0, 0)) := hid (by simp [divV, cn, ck])
        have ena : (!false && n == 0) = true := by simp [cn]
        simp only [ena] at na
        clear ena
        have enb : (!false && k == 0) = false := by simp [ck]
        simp only [enb] at nb
        clear enb
        clear hov
        clear cn
        clear ck
        generalize rdV m (s != t, false, 0, 0) = Y at *
        obtain ⟨y1, y2⟩ := Y
        clear ri
        generalize (s != t) = st at *
        go_wp2_with fail
        refine (na _).mono ?_
        rintro e w1 ⟨rfl, hf1⟩
        replace kQ := kQ.fwd hf1
        replace kA := kA.fwd hf1
        replace kB := kB.fwd hf1
        replace hF := hF.trans hf1
        clear hf1
        clear qc0 qc1 qc2
        clear ac0 ac1 ac2 ac3 ac4
        clear bc0 bc1 bc2 bc3 bc4
        have qc0 := BlkV.cell kQ 0 rfl
        have qz0 := BlkV.frozen kQ 0
        have qc1 := BlkV.cell kQ 1 rfl
        have qz1 := BlkV.frozen kQ 1
        have qc2 := BlkV.cell kQ 2 rfl
        have qz2 := BlkV.frozen kQ 2
        have ac0 := BlkV.cell kA 0 rfl
        have az0 := BlkV.frozen kA 0
        have ac1 := BlkV.cell kA 1 rfl
        have az1 := BlkV.frozen kA 1
        have ac2 := BlkV.cell kA 2 rfl
        have az2 := BlkV.frozen kA 2
        have ac3 := BlkV.cell kA 3 rfl
        have az3 := BlkV.frozen kA 3
        have ac4 := BlkV.cell kA 4 rfl
        have az4 := BlkV.frozen kA 4
        have bc0 := BlkV.cell kB 0 rfl
        have bz0 := BlkV.frozen kB 0
        have bc1 := BlkV.cell kB 1 rfl
        have bz1 := BlkV.frozen kB 1
        have bc2 := BlkV.cell kB 2 rfl
        have bz2 := BlkV.frozen kB 2
        have bc3 := BlkV.cell kB 3 rfl
        have bz3 := BlkV.frozen kB 3
        have bc4 := BlkV.cell kB 4 rfl
        have bz4 := BlkV.frozen kB 4
        go_wp2_with fail
        refine (nb _).mono ?_
        rintro e w2 ⟨rfl, hf2⟩
        replace kQ := kQ.fwd hf2
        replace kA := kA.fwd hf2
        replace kB := kB.fwd hf2
        replace hF := hF.trans hf2
        clear hf2
        clear qc0 qz0 qc1 qz1 qc2 qz2
        clear ac0 az0 ac1 az1 ac2 az2 ac3 az3 ac4 az4
        clear bc0 bz0 bc1 bz1 bc2 bz2 bc3 bz3 bc4 bz4
        have qc0 := BlkV.cell kQ 0 rfl
        have qz0 := BlkV.frozen kQ 0
        have qc1 := BlkV.cell kQ 1 rfl
        have qz1 := BlkV.frozen kQ 1
        have qc2 := BlkV.cell kQ 2 rfl
        have qz2 := BlkV.frozen kQ 2
        have ac0 := BlkV.cell kA 0 rfl
        have az0 := BlkV.frozen kA 0
        have ac1 := BlkV.cell kA 1 rfl
        have az1 := BlkV.frozen kA 1
        have ac2 := BlkV.cell kA 2 rfl
        have az2 := BlkV.frozen kA 2
        have ac3 := BlkV.cell kA 3 rfl
        have az3 := BlkV.frozen kA 3
        have ac4 := BlkV.cell kA 4 rfl
        have az4 := BlkV.frozen kA 4
        have bc0 := BlkV.cell kB 0 rfl
        have bz0 := BlkV.frozen kB 0
        have bc1 := BlkV.cell kB 1 rfl
        have bz1 := BlkV.frozen kB 1
        have bc2 := BlkV.cell kB 2 rfl
        have bz2 := BlkV.frozen kB 2
        have bc3 := BlkV.cell kB 3 rfl
        have bz3 := BlkV.frozen kB 3
        have bc4 := BlkV.cell kB 4 rfl
        have bz4 := BlkV.frozen kB 4
        go_wp2_with fail
        refine (na _).mono ?_
        rintro e w3 ⟨rfl, hf3⟩
        replace kQ := kQ.fwd hf3
        replace kA := kA.fwd hf3
        replace kB := kB.fwd hf3
        replace hF := hF.trans hf3
        clear hf3
        clear qc0 qz0 qc1 qz1 qc2 qz2
        clear ac0 az0 ac1 az1 ac2 az2 ac3 az3 ac4 az4
        clear bc0 bz0 bc1 bz1 bc2 bz2 bc3 bz3 bc4 bz4
        have qc0 := BlkV.cell kQ 0 rfl
        have qz0 := BlkV.frozen kQ 0
        have qc1 := BlkV.cell kQ 1 rfl
        have qz1 := BlkV.frozen kQ 1
        have qc2 := BlkV.cell kQ 2 rfl
        have qz2 := BlkV.frozen kQ 2
        have ac0 := BlkV.cell kA 0 rfl
        have az0 := BlkV.frozen kA 0
        have ac1 := BlkV.cell kA 1 rfl
        have az1 := BlkV.frozen kA 1
        have ac2 := BlkV.cell kA 2 rfl
        have az2 := BlkV.frozen kA 2
        have ac3 := BlkV.cell kA 3 rfl
        have az3 := BlkV.frozen kA 3
        have ac4 := BlkV.cell kA 4 rfl
        have az4 := BlkV.frozen kA 4
        have bc0 := BlkV.cell kB 0 rfl
        have bz0 := BlkV.frozen kB 0
        have bc1 := BlkV.cell kB 1 rfl
        have bz1 := BlkV.frozen kB 1
        have bc2 := BlkV.cell kB 2 rfl
        have bz2 := BlkV.frozen kB 2
        have bc3 := BlkV.cell kB 3 rfl
        have bz3 := BlkV.frozen kB 3
        have bc4 := BlkV.cell kB 4 rfl
        have bz4 := BlkV.frozen kB 4
        go_wp2_with fail
        refine (rz _).mono ?_
        rintro e w4 ⟨rfl, hf4⟩
        replace kQ := kQ.fwd hf4
        replace kA := kA.fwd hf4
        replace kB := kB.fwd hf4
        replace hF := hF.trans hf4
        clear hf4
        clear qc0 qz0 qc1 qz1 qc2 qz2
        clear ac0 az0 ac1 az1 ac2 az2 ac3 az3 ac4 az4
        clear bc0 bz0 bc1 bz1 bc2 bz2 bc3 bz3 bc4 bz4
        have qc0 := BlkV.cell kQ 0 rfl
        have qz0 := BlkV.frozen kQ 0
        have qc1 := BlkV.cell kQ 1 rfl
        have qz1 := BlkV.frozen kQ 1
        have qc2 := BlkV.cell kQ 2 rfl
        have qz2 := BlkV.frozen kQ 2
        have ac0 := BlkV.cell kA 0 rfl
        have az0 := BlkV.frozen kA 0
        have ac1 := BlkV.cell kA 1 rfl
        have az1 := BlkV.frozen kA 1
        have ac2 := BlkV.cell kA 2 rfl
        have az2 := BlkV.frozen kA 2
        have ac3 := BlkV.cell kA 3 rfl
        have az3 := BlkV.frozen kA 3
        have ac4 := BlkV.cell kA 4 rfl
        have az4 := BlkV.frozen kA 4
        have bc0 := BlkV.cell kB 0 rfl
        have bz0 := BlkV.frozen kB 0
        have bc1 := BlkV.cell kB 1 rfl
        have bz1 := BlkV.frozen kB 1
        have bc2 := BlkV.cell kB 2 rfl
        have bz2 := BlkV.frozen kB 2
        have bc3 := BlkV.cell kB 3 rfl
        have bz3 := BlkV.frozen kB 3
        have bc4 := BlkV.cell kB 4 rfl
        have bz4 := BlkV.frozen kB 4
        go_wp2
        go_ret2
        exact ⟨ret_pair (by rw [HV.out]; try rfl) (by rw [HV.out]; try rfl), hF⟩
    · by_cases ck : k = 0
      · have HV : Hid (divV m (s, false, n, x) (t, false, k, y) o = ((rdV m (s != t, true, 0, 0)).1, 8)) := hid (by simp [divV, cn, ck])
        have ena : (!false && n == 0) = false := by simp [cn]
        simp only [ena] at na
        clear ena
        have enb : (!false && k == 0) = true := by simp [ck]
        simp only [enb] at nb
        clear enb
        clear hov
        clear cn
        clear ck
        generalize rdV m (s != t, true, 0, 0) = Y at *
        obtain ⟨y1, y2⟩ := Y
        clear rz
        generalize (s != t) = st at *
        go_wp2_with fail
        refine (na _).mono ?_
        rintro e w1 ⟨rfl, hf1⟩
        replace kQ := kQ.fwd hf1
        replace kA := kA.fwd hf1
        replace kB := kB.fwd hf1
        replace hF := hF.trans hf1
        clear hf1
        clear qc0 qc1 qc2
        clear ac0 ac1 ac2 ac3 ac4
        clear bc0 bc1 bc2 bc3 bc4
        have qc0 := BlkV.cell kQ 0 rfl
        have qz0 := BlkV.frozen kQ 0
        have qc1 := BlkV.cell kQ 1 rfl
        have qz1 := BlkV.frozen kQ 1
        have qc2 := BlkV.cell kQ 2 rfl
        have qz2 := BlkV.frozen kQ 2
        have ac0 := BlkV.cell kA 0 rfl
        have az0 := BlkV.frozen kA 0
        have ac1 := BlkV.cell kA 1 rfl
        have az1 := BlkV.frozen kA 1
        have ac2 := BlkV.cell kA 2 rfl
        have az2 := BlkV.frozen kA 2
        have ac3 := BlkV.cell kA 3 rfl
        have az3 := BlkV.frozen kA 3
        have ac4 := BlkV.cell kA 4 rfl
        have az4 := BlkV.frozen kA 4
        have bc0 := BlkV.cell kB 0 rfl
        have bz0 := BlkV.frozen kB 0
        have bc1 := BlkV.cell kB 1 rfl
        have bz1 := BlkV.frozen kB 1
        have bc2 := BlkV.cell kB 2 rfl
        have bz2 := BlkV.frozen kB 2
        have bc3 := BlkV.cell kB 3 rfl
        have bz3 := BlkV.frozen kB 3
        have bc4 := BlkV.cell kB 4 rfl
        have bz4 := BlkV.frozen kB 4
        go_wp2_with fail
        refine (na _).mono ?_
        rintro e w2 ⟨rfl, hf2⟩
        replace kQ := kQ.fwd hf2
        replace kA := kA.fwd hf2
        replace kB := kB.fwd hf2
        replace hF := hF.trans hf2
        clear hf2
        clear qc0 qz0 qc1 qz1 qc2 qz2
        clear ac0 az0 ac1 az1 ac2 az2 ac3 az3 ac4 az4
        clear bc0 bz0 bc1 bz1 bc2 bz2 bc3 bz3 bc4 bz4
        have qc0 := BlkV.cell kQ 0 rfl
        have qz0 := BlkV.frozen kQ 0
        have qc1 := BlkV.cell kQ 1 rfl
        have qz1 := BlkV.frozen kQ 1
        have qc2 := BlkV.cell kQ 2 rfl
        have qz2 := BlkV.frozen kQ 2
        have ac0 := BlkV.cell kA 0 rfl
        have az0 := BlkV.frozen kA 0
        have ac1 := BlkV.cell kA 1 rfl
        have az1 := BlkV.frozen kA 1
        have ac2 := BlkV.cell kA 2 rfl
        have az2 := BlkV.frozen kA 2
        have ac3 := BlkV.cell kA 3 rfl
        have az3 := BlkV.frozen kA 3
        have ac4 := BlkV.cell kA 4 rfl
        have az4 := BlkV.frozen kA 4
        have bc0 := BlkV.cell kB 0 rfl
        have bz0 := BlkV.frozen kB 0
        have bc1 := BlkV.cell kB 1 rfl
        have bz1 := BlkV.frozen kB 1
        have bc2 := BlkV.cell kB 2 rfl
        have bz2 := BlkV.frozen kB 2
        have bc3 := BlkV.cell kB 3 rfl
        have bz3 := BlkV.frozen kB 3
        have bc4 := BlkV.cell kB 4 rfl
        have bz4 := BlkV.frozen kB 4
        go_wp2_with fail
        refine (nb _).mono ?_
        rintro e w3 ⟨rfl, hf3⟩
        replace kQ := kQ.fwd hf3
        replace kA := kA.fwd hf3
        replace kB := kB.fwd hf3
        replace hF := hF.trans hf3
        clear hf3
        clear qc0 qz0 qc1 qz1 qc2 qz2
        clear ac0 az0 ac1 az1 ac2 az2 ac3 az3 ac4 az4
        clear bc0 bz0 bc1 bz1 bc2 bz2 bc3 bz3 bc4 bz4
        have qc0 := BlkV.cell kQ 0 rfl
        have qz0 := BlkV.frozen kQ 0
        have qc1 := BlkV.cell kQ 1 rfl
        have qz1 := BlkV.frozen kQ 1
        have qc2 := BlkV.cell kQ 2 rfl
        have qz2 := BlkV.frozen kQ 2
        have ac0 := BlkV.cell kA 0 rfl
        have az0 := BlkV.frozen kA 0
        have ac1 := BlkV.cell kA 1 rfl
        have az1 := BlkV.frozen kA 1
        have ac2 := BlkV.cell kA 2 rfl
        have az2 := BlkV.frozen kA 2
        have ac3 := BlkV.cell kA 3 rfl
        have az3 := BlkV.frozen kA 3
        have ac4 := BlkV.cell kA 4 rfl
        have az4 := BlkV.frozen kA 4
        have bc0 := BlkV.cell kB 0 rfl
        have bz0 := BlkV.frozen kB 0
        have bc1 := BlkV.cell kB 1 rfl
        have bz1 := BlkV.frozen kB 1
        have bc2 := BlkV.cell kB 2 rfl
        have bz2 := BlkV.frozen kB 2
        have bc3 := BlkV.cell kB 3 rfl
        have bz3 := BlkV.frozen kB 3
        have bc4 := BlkV.cell kB 4 rfl
        have bz4 := BlkV.frozen kB 4
        go_wp2_with fail
        refine (ri _).mono ?_
        rintro e w4 ⟨rfl, hf4⟩
        replace kQ := kQ.fwd hf4
        replace kA := kA.fwd hf4
        replace kB := kB.fwd hf4
        replace hF := hF.trans hf4
        clear hf4
        clear qc0 qz0 qc1 qz1 qc2 qz2
        clear ac0 az0 ac1 az1 ac2 az2 ac3 az3 ac4 az4
        clear bc0 bz0 bc1 bz1 bc2 bz2 bc3 bz3 bc4 bz4
        have qc0 := BlkV.cell kQ 0 rfl
        have qz0 := BlkV.frozen kQ 0
        have qc1 := BlkV.cell kQ 1 rfl
        have qz1 := BlkV.frozen kQ 1
        have qc2 := BlkV.cell kQ 2 rfl
        have qz2 := BlkV.frozen kQ 2
        have ac0 := BlkV.cell kA 0 rfl
        have az0 := BlkV.frozen kA 0
        have ac1 := BlkV.cell kA 1 rfl
        have az1 := BlkV.frozen kA 1
        have ac2 := BlkV.cell kA 2 rfl
        have az2 := BlkV.frozen kA 2
        have ac3 := BlkV.cell kA 3 rfl
        have az3 := BlkV.frozen kA 3
        have ac4 := BlkV.cell kA 4 rfl
        have az4 := BlkV.frozen kA 4
        have bc0 := BlkV.cell kB 0 rfl
        have bz0 := BlkV.frozen kB 0
        have bc1 := BlkV.cell kB 1 rfl
        have bz1 := BlkV.frozen kB 1
        have bc2 := BlkV.cell kB 2 rfl
        have bz2 := BlkV.frozen kB 2
        have bc3 := BlkV.cell kB 3 rfl
        have bz3 := BlkV.frozen kB 3
        have bc4 := BlkV.cell kB 4 rfl
        have bz4 := BlkV.frozen kB 4
        go_wp2
        go_ret2
        exact ⟨ret_pair (by rw [HV.out]; try rfl) (by rw [HV.out]; try rfl), hF⟩
      · have HV : Hid (divV m (s, false, n, x) (t, false, k, y) o = rdV m o) := hid (by simp [divV, cn, ck])
        have ena : (!false && n == 0) = false := by simp [cn]
        simp only [ena] at na
        clear ena
        have enb : (!false && k == 0) = false := by simp [ck]
        simp only [enb] at nb
        clear enb
        have ov := hov rfl rfl cn ck
        clear hov
        clear cn
        clear ck
        obtain ⟨os, oe, on, ox⟩ := o
        simp only at ho
        clear ri rz
        generalize (s != t) = st at *
        go_wp2_with fail
        refine (na _).mono ?_
        rintro e w1 ⟨rfl, hf1⟩
        replace kQ := kQ.fwd hf1
        replace kA := kA.fwd hf1
        replace kB := kB.fwd hf1
        replace hF := hF.trans hf1
        clear hf1
        clear qc0 qc1 qc2
        clear ac0 ac1 ac2 ac3 ac4
        clear bc0 bc1 bc2 bc3 bc4
        have qc0 := BlkV.cell kQ 0 rfl
        have qz0 := BlkV.frozen kQ 0
        have qc1 := BlkV.cell kQ 1 rfl
        have qz1 := BlkV.frozen kQ 1
        have qc2 := BlkV.cell kQ 2 rfl
        have qz2 := BlkV.frozen kQ 2
        have ac0 := BlkV.cell kA 0 rfl
        have az0 := BlkV.frozen kA 0
        have ac1 := BlkV.cell kA 1 rfl
        have az1 := BlkV.frozen kA 1
        have ac2 := BlkV.cell kA 2 rfl
        have az2 := BlkV.frozen kA 2
        have ac3 := BlkV.cell kA 3 rfl
        have az3 := BlkV.frozen kA 3
        have ac4 := BlkV.cell kA 4 rfl
        have az4 := BlkV.frozen kA 4
        have bc0 := BlkV.cell kB 0 rfl
        have bz0 := BlkV.frozen kB 0
        have bc1 := BlkV.cell kB 1 rfl
        have bz1 := BlkV.frozen kB 1
        have bc2 := BlkV.cell kB 2 rfl
        have bz2 := BlkV.frozen kB 2
        have bc3 := BlkV.cell kB 3 rfl
        have bz3 := BlkV.frozen kB 3
        have bc4 := BlkV.cell kB 4 rfl
        have bz4 := BlkV.frozen kB 4
        go_wp2_with fail
        refine (na _).mono ?_
        rintro e w2 ⟨rfl, hf2⟩
        replace kQ := kQ.fwd hf2
        replace kA := kA.fwd hf2
        replace kB := kB.fwd hf2
        replace hF := hF.trans hf2
        clear hf2
        clear qc0 qz0 qc1 qz1 qc2 qz2
        clear ac0 az0 ac1 az1 ac2 az2 ac3 az3 ac4 az4
        clear bc0 bz0 bc1 bz1 bc2 bz2 bc3 bz3 bc4 bz4
        have qc0 := BlkV.cell kQ 0 rfl
        have qz0 := BlkV.frozen kQ 0
        have qc1 := BlkV.cell kQ 1 rfl
        have qz1 := BlkV.frozen kQ 1
        have qc2 := BlkV.cell kQ 2 rfl
        have qz2 := BlkV.frozen kQ 2
        have ac0 := BlkV.cell kA 0 rfl
        have az0 := BlkV.frozen kA 0
        have ac1 := BlkV.cell kA 1 rfl
        have az1 := BlkV.frozen kA 1
        have ac2 := BlkV.cell kA 2 rfl
        have az2 := BlkV.frozen kA 2
        have ac3 := BlkV.cell kA 3 rfl
        have az3 := BlkV.frozen kA 3
        have ac4 := BlkV.cell kA 4 rfl
        have az4 := BlkV.frozen kA 4
        have bc0 := BlkV.cell kB 0 rfl
        have bz0 := BlkV.frozen kB 0
        have bc1 := BlkV.cell kB 1 rfl
        have bz1 := BlkV.frozen kB 1
        have bc2 := BlkV.cell kB 2 rfl
        have bz2 := BlkV.frozen kB 2
        have bc3 := BlkV.cell kB 3 rfl
        have bz3 := BlkV.frozen kB 3
        have bc4 := BlkV.cell kB 4 rfl
        have bz4 := BlkV.frozen kB 4
        go_wp2_with fail
        refine (nb _).mono ?_
        rintro e w3 ⟨rfl, hf3⟩
        replace kQ := kQ.fwd hf3
        replace kA := kA.fwd hf3
        replace kB := kB.fwd hf3
        replace hF := hF.trans hf3
        clear hf3
        clear qc0 qz0 qc1 qz1 qc2 qz2
        clear ac0 az0 ac1 az1 ac2 az2 ac3 az3 ac4 az4
        clear bc0 bz0 bc1 bz1 bc2 bz2 bc3 bz3 bc4 bz4
        have qc0 := BlkV.cell kQ 0 rfl
        have qz0 := BlkV.frozen kQ 0
        have qc1 := BlkV.cell kQ 1 rfl
        have qz1 := BlkV.frozen kQ 1
        have qc2 := BlkV.cell kQ 2 rfl
        have qz2 := BlkV.frozen kQ 2
        have ac0 := BlkV.cell kA 0 rfl
        have az0 := BlkV.frozen kA 0
        have ac1 := BlkV.cell kA 1 rfl
        have az1 := BlkV.frozen kA 1
        have ac2 := BlkV.cell kA 2 rfl
        have az2 := BlkV.frozen kA 2
        have ac3 := BlkV.cell kA 3 rfl
        have az3 := BlkV.frozen kA 3
        have ac4 := BlkV.cell kA 4 rfl
        have az4 := BlkV.frozen kA 4
        have bc0 := BlkV.cell kB 0 rfl
        have bz0 := BlkV.frozen kB 0
        have bc1 := BlkV.cell kB 1 rfl
        have bz1 := BlkV.frozen kB 1
        have bc2 := BlkV.cell kB 2 rfl
        have bz2 := BlkV.frozen kB 2
        have bc3 := BlkV.cell kB 3 rfl
        have bz3 := BlkV.frozen kB 3
        have bc4 := BlkV.cell kB 4 rfl
        have bz4 := BlkV.frozen kB 4
        go_wp2_with fail
        replace kQ := kQ.drew
        replace kA := kA.drew
        replace kB := kB.drew
        replace hF := hF.drew
        clear qc0 qz0 qc1 qz1 qc2 qz2
        clear ac0 az0 ac1 az1 ac2 az2 ac3 az3 ac4 az4
        clear bc0 bz0 bc1 bz1 bc2 bz2 bc3 bz3 bc4 bz4
        have qc0 := BlkV.cell kQ 0 rfl
        have qz0 := BlkV.frozen kQ 0
        have qc1 := BlkV.cell kQ 1 rfl
        have qz1 := BlkV.frozen kQ 1
        have qc2 := BlkV.cell kQ 2 rfl
        have qz2 := BlkV.frozen kQ 2
        have ac0 := BlkV.cell kA 0 rfl
        have az0 := BlkV.frozen kA 0
        have ac1 := BlkV.cell kA 1 rfl
        have az1 := BlkV.frozen kA 1
        have ac2 := BlkV.cell kA 2 rfl
        have az2 := BlkV.frozen kA 2
        have ac3 := BlkV.cell kA 3 rfl
        have az3 := BlkV.frozen kA 3
        have ac4 := BlkV.cell kA 4 rfl
        have az4 := BlkV.frozen kA 4
        have bc0 := BlkV.cell kB 0 rfl
        have bz0 := BlkV.frozen kB 0
        have bc1 := BlkV.cell kB 1 rfl
        have bz1 := BlkV.frozen kB 1
        have bc2 := BlkV.cell kB 2 rfl
        have bz2 := BlkV.frozen kB 2
        have bc3 := BlkV.cell kB 3 rfl
        have bz3 := BlkV.frozen kB 3
        have bc4 := BlkV.cell kB 4 rfl
        have bz4 := BlkV.frozen kB 4
        go_region_held3 (fun w' => w'.cell? ⟨w.heap.size, 0, none⟩ = some (.int .u8 (rAbove m)) ∧ w'.cell? ⟨w.heap.size, 1, none⟩ = some (.int .u8 (rBelow m)) ∧ w'.cell? ⟨w.heap.size, 2, none⟩ = some (.bool (rMinus m)) ∧ w'.cell? ⟨gA, 0, none⟩ = some (.bool s) ∧ w'.cell? ⟨gA, 1, none⟩ = some (.bool false) ∧ w'.cell? ⟨gA, 2, none⟩ = some (.int .u64 (a)) ∧ w'.cell? ⟨gA, 3, none⟩ = some (.int .u64 (b)) ∧ w'.cell? ⟨gA, 4, none⟩ = some (.int .i64 (x)) ∧ w'.cell? ⟨gB, 0, none⟩ = some (.bool t) ∧ w'.cell? ⟨gB, 1, none⟩ = some (.bool false) ∧ w'.cell? ⟨gB, 2, none⟩ = some (.int .u64 (c)) ∧ w'.cell? ⟨gB, 3, none⟩ = some (.int .u64 (d)) ∧ w'.cell? ⟨gB, 4, none⟩ = some (.int .i64 (y)))
          (first | exact ⟨by with_reducible assumption, by with_reducible assumption, by with_reducible assumption, by with_reducible assumption, by with_reducible assumption, by with_reducible assumption, by with_reducible assumption, by with_reducible assumption, by with_reducible assumption, by with_reducible assumption, by with_reducible assumption, by with_reducible assumption, by with_reducible assumption⟩ | exact ⟨(farset (by simp; try omega) (farset (by simp; try omega) (farset (by simp; try omega) (farset (by simp; try omega) (farset (by simp; try omega) (by with_reducible assumption)))))), (farset (by simp; try omega) (farset (by simp; try omega) (farset (by simp; try omega) (farset (by simp; try omega) (farset (by simp; try omega) (by with_reducible assumption)))))), (farset (by simp; try omega) (farset (by simp; try omega) (farset (by simp; try omega) (farset (by simp; try omega) (farset (by simp; try omega) (by with_reducible assumption)))))), (farset (by simp; try omega) (farset (by simp; try omega) (farset (by simp; try omega) (farset (by simp; try omega) (farset (by simp; try omega) (by with_reducible assumption)))))), (farset (by simp; try omega) (farset (by simp; try omega) (farset (by simp; try omega) (farset (by simp; try omega) (farset (by simp; try omega) (by with_reducible assumption)))))), (farset (by simp; try omega) (farset (by simp; try omega) (farset (by simp; try omega) (farset (by simp; try omega) (farset (by simp; try omega) (by with_reducible assumption)))))), (farset (by simp; try omega) (farset (by simp; try omega) (farset (by simp; try omega) (farset (by simp; try omega) (farset (by simp; try omega) (by with_reducible assumption)))))), (farset (by simp; try omega) (farset (by simp; try omega) (farset (by simp; try omega) (farset (by simp; try omega) (farset (by simp; try omega) (by with_reducible assumption)))))), (farset (by simp; try omega) (farset (by simp; try omega) (farset (by simp; try omega) (farset (by simp; try omega) (farset (by simp; try omega) (by with_reducible assumption)))))), (farset (by simp; try omega) (farset (by simp; try omega) (farset (by simp; try omega) (farset (by simp; try omega) (farset (by simp; try omega) (by with_reducible assumption)))))), (farset (by simp; try omega) (farset (by simp; try omega) (farset (by simp; try omega) (farset (by simp; try omega) (farset (by simp; try omega) (by with_reducible assumption)))))), (farset (by simp; try omega) (farset (by simp; try omega) (farset (by simp; try omega) (farset (by simp; try omega) (farset (by simp; try omega) (by with_reducible assumption)))))), (farset (by simp; try omega) (farset (by simp; try omega) (farset (by simp; try omega) (farset (by simp; try omega) (farset (by simp; try omega) (by with_reducible assumption))))))⟩)
          (first
            | (go_at_call 37
               refine (rr _).mono ?_
               rintro e w8 ⟨rfl, hf8⟩
               replace kQ := kQ.fwd hf8
               replace kA := kA.fwd hf8
               replace kB := kB.fwd hf8
               replace hF := hF.trans hf8
               clear hf8
               clear qc0 qz0 qc1 qz1 qc2 qz2
               clear ac0 az0 ac1 az1 ac2 az2 ac3 az3 ac4 az4
               clear bc0 bz0 bc1 bz1 bc2 bz2 bc3 bz3 bc4 bz4
               have qc0 := BlkV.cell kQ 0 rfl
               have qz0 := BlkV.frozen kQ 0
               have qc1 := BlkV.cell kQ 1 rfl
               have qz1 := BlkV.frozen kQ 1
               have qc2 := BlkV.cell kQ 2 rfl
               have qz2 := BlkV.frozen kQ 2
               have ac0 := BlkV.cell kA 0 rfl
               have az0 := BlkV.frozen kA 0
               have ac1 := BlkV.cell kA 1 rfl
               have az1 := BlkV.frozen kA 1
               have ac2 := BlkV.cell kA 2 rfl
               have az2 := BlkV.frozen kA 2
               have ac3 := BlkV.cell kA 3 rfl
               have az3 := BlkV.frozen kA 3
               have ac4 := BlkV.cell kA 4 rfl
               have az4 := BlkV.frozen kA 4
               have bc0 := BlkV.cell kB 0 rfl
               have bz0 := BlkV.frozen kB 0
               have bc1 := BlkV.cell kB 1 rfl
               have bz1 := BlkV.frozen kB 1
               have bc2 := BlkV.cell kB 2 rfl
               have bz2 := BlkV.frozen kB 2
               have bc3 := BlkV.cell kB 3 rfl
               have bz3 := BlkV.frozen kB 3
               have bc4 := BlkV.cell kB 4 rfl
               have bz4 := BlkV.frozen kB 4)
            | (go_at_call 51
               refine (ov _).mono ?_
               rintro e w7 ⟨r, rfl, hf7, a', b', rfl, p1, p2, hp⟩
               replace kQ := kQ.fwd hf7
               replace kA := kA.fwd hf7
               replace kB := kB.fwd hf7
               replace hF := hF.trans hf7
               clear hf7
               have rr := fun w => round_any (w := w) m (⟨a', b', rfl, p1, p2, hp⟩ : VV (.agg #[.bool os, .bool oe, .int .u64 a', .int .u64 b', .int .i64 ox]) os oe on ox) ho.1 ho.2
               clear hp
               unfold ruleV at rr
               generalize rdV m (os, oe, on, ox) = Y at rr HV
               obtain ⟨y1, y2⟩ := Y
               clear qc0 qz0 qc1 qz1 qc2 qz2
               clear ac0 az0 ac1 az1 ac2 az2 ac3 az3 ac4 az4
               clear bc0 bz0 bc1 bz1 bc2 bz2 bc3 bz3 bc4 bz4
               have qc0 := BlkV.cell kQ 0 rfl
               have qz0 := BlkV.frozen kQ 0
               have qc1 := BlkV.cell kQ 1 rfl
               have qz1 := BlkV.frozen kQ 1
               have qc2 := BlkV.cell kQ 2 rfl
               have qz2 := BlkV.frozen kQ 2
               have ac0 := BlkV.cell kA 0 rfl
               have az0 := BlkV.frozen kA 0
               have ac1 := BlkV.cell kA 1 rfl
               have az1 := BlkV.frozen kA 1
               have ac2 := BlkV.cell kA 2 rfl
               have az2 := BlkV.frozen kA 2
               have ac3 := BlkV.cell kA 3 rfl
               have az3 := BlkV.frozen kA 3
               have ac4 := BlkV.cell kA 4 rfl
               have az4 := BlkV.frozen kA 4
               have bc0 := BlkV.cell kB 0 rfl
               have bz0 := BlkV.frozen kB 0
               have bc1 := BlkV.cell kB 1 rfl
               have bz1 := BlkV.frozen kB 1
               have bc2 := BlkV.cell kB 2 rfl
               have bz2 := BlkV.frozen kB 2
               have bc3 := BlkV.cell kB 3 rfl
               have bz3 := BlkV.frozen kB 3
               have bc4 := BlkV.cell kB 4 rfl
               have bz4 := BlkV.frozen kB 4))
        go_wp2
        go_ret2
        exact ⟨ret_pair (by rw [HV.out]) (by rw [HV.out]), hF⟩
  · by_cases cn : n = 0
    · have HV : Hid (divV m (s, false, n, x) (t, true, k, y) o = rdV m (s != t, false, 0, 0)) := hid (by simp [divV, cn])
      have ena : (!false && n == 0) = true := by simp [cn]
      simp only [ena] at na
      clear ena
      have enb : (!true && k == 0) = false := rfl
      simp only [enb] at nb
      clear enb
      clear hov
      clear cn
      generalize rdV m (s != t, false, 0, 0) = Y at *
      obtain ⟨y1, y2⟩ := Y
      clear ri
      generalize (s != t) = st at *
      go_wp2_with fail
      refine (na _).mono ?_
      rintro e w1 ⟨rfl, hf1⟩
      replace kQ := kQ.fwd hf1
      replace kA := kA.fwd hf1
      replace kB := kB.fwd hf1
      replace hF := hF.trans hf1
      clear hf1
      clear qc0 qc1 qc2
      clear ac0 ac1 ac2 ac3 ac4
      clear bc0 bc1 bc2 bc3 bc4
      have qc0 := BlkV.cell kQ 0 rfl
      have qz0 := BlkV.frozen kQ 0
      have qc1 := BlkV.cell kQ 1 rfl
      have qz1 := BlkV.frozen kQ 1
      have qc2 := BlkV.cell kQ 2 rfl
      have qz2 := BlkV.frozen kQ 2
      have ac0 := BlkV.cell kA 0 rfl
      have az0 := BlkV.frozen kA 0
      have ac1 := BlkV.cell kA 1 rfl
      have az1 := BlkV.frozen kA 1
      have ac2 := BlkV.cell kA 2 rfl
      have az2 := BlkV.frozen kA 2
      have ac3 := BlkV.cell kA 3 rfl
      have az3 := BlkV.frozen kA 3
      have ac4 := BlkV.cell kA 4 rfl
      have az4 := BlkV.frozen kA 4
      have bc0 := BlkV.cell kB 0 rfl
      have bz0 := BlkV.frozen kB 0
      have bc1 := BlkV.cell kB 1 rfl
      have bz1 := BlkV.frozen kB 1
      have bc2 := BlkV.cell kB 2 rfl
      have bz2 := BlkV.frozen kB 2
      have bc3 := BlkV.cell kB 3 rfl
      have bz3 := BlkV.frozen kB 3
      have bc4 := BlkV.cell kB 4 rfl
      have bz4 := BlkV.frozen kB 4
      go_wp2_with fail
      refine (nb _).mono ?_
      rintro e w2 ⟨rfl, hf2⟩
      replace kQ := kQ.fwd hf2
      replace kA := kA.fwd hf2
      replace kB := kB.fwd hf2
      replace hF := hF.trans hf2
      clear hf2
      clear qc0 qz0 qc1 qz1 qc2 qz2
      clear ac0 az0 ac1 az1 ac2 az2 ac3 az3 ac4 az4
      clear bc0 bz0 bc1 bz1 bc2 bz2 bc3 bz3 bc4 bz4
      have qc0 := BlkV.cell kQ 0 rfl
      have qz0 := BlkV.frozen kQ 0
      have qc1 := BlkV.cell kQ 1 rfl
      have qz1 := BlkV.frozen kQ 1
      have qc2 := BlkV.cell kQ 2 rfl
      have qz2 := BlkV.frozen kQ 2
      have ac0 := BlkV.cell kA 0 rfl
      have az0 := BlkV.frozen kA 0
      have ac1 := BlkV.cell kA 1 rfl
      have az1 := BlkV.frozen kA 1
      have ac2 := BlkV.cell kA 2 rfl
      have az2 := BlkV.frozen kA 2
      have ac3 := BlkV.cell kA 3 rfl
      have az3 := BlkV.frozen kA 3
      have ac4 := BlkV.cell kA 4 rfl
      have az4 := BlkV.frozen kA 4
      have bc0 := BlkV.cell kB 0 rfl
      have bz0 := BlkV.frozen kB 0
      have bc1 := BlkV.cell kB 1 rfl
      have bz1 := BlkV.frozen kB 1
      have bc2 := BlkV.cell kB 2 rfl
      have bz2 := BlkV.frozen kB 2
      have bc3 := BlkV.cell kB 3 rfl
      have bz3 := BlkV.frozen kB 3
      have bc4 := BlkV.cell kB 4 rfl
      have bz4 := BlkV.frozen kB 4
      go_wp2_with fail
      refine (rz _).mono ?_
      rintro e w3 ⟨rfl, hf3⟩
      replace kQ := kQ.fwd hf3
      replace kA := kA.fwd hf3
      replace kB := kB.fwd hf3
      replace hF := hF.trans hf3
      clear hf3
      clear qc0 qz0 qc1 qz1 qc2 qz2
      clear ac0 az0 ac1 az1 ac2 az2 ac3 az3 ac4 az4
      clear bc0 bz0 bc1 bz1 bc2 bz2 bc3 bz3 bc4 bz4
      have qc0 := BlkV.cell kQ 0 rfl
      have qz0 := BlkV.frozen kQ 0
      have qc1 := BlkV.cell kQ 1 rfl
      have qz1 := BlkV.frozen kQ 1
      have qc2 := BlkV.cell kQ 2 rfl
      have qz2 := BlkV.frozen kQ 2
      have ac0 := BlkV.cell kA 0 rfl
      have az0 := BlkV.frozen kA 0
      have ac1 := BlkV.cell kA 1 rfl
      have az1 := BlkV.frozen kA 1
      have ac2 := BlkV.cell kA 2 rfl
      have az2 := BlkV.frozen kA 2
      have ac3 := BlkV.cell kA 3 rfl
      have az3 := BlkV.frozen kA 3
      have ac4 := BlkV.cell kA 4 rfl
      have az4 := BlkV.frozen kA 4
      have bc0 := BlkV.cell kB 0 rfl
      have bz0 := BlkV.frozen kB 0
      have bc1 := BlkV.cell kB 1 rfl
      have bz1 := BlkV.frozen kB 1
      have bc2 := BlkV.cell kB 2 rfl
      have bz2 := BlkV.frozen kB 2
      have bc3 := BlkV.cell kB 3 rfl
      have bz3 := BlkV.frozen kB 3
      have bc4 := BlkV.cell kB 4 rfl
      have bz4 := BlkV.frozen kB 4
      go_wp2
      go_ret2
      exact ⟨ret_pair (by rw [HV.out]; try rfl) (by rw [HV.out]; try rfl), hF⟩
    · have HV : Hid (divV m (s, false, n, x) (t, true, k, y) o = rdV m (s != t, false, 0, 0)) := hid (by simp [divV, cn])
      have ena : (!false && n == 0) = false := by simp [cn]
      simp only [ena] at na
      clear ena
      clear hov
      clear cn
      generalize rdV m (s != t, false, 0, 0) = Y at *
      obtain ⟨y1, y2⟩ := Y
      clear ri
      generalize (s != t) = st at *
      go_wp2_with fail
      refine (na _).mono ?_
      rintro e w1 ⟨rfl, hf1⟩
      replace kQ := kQ.fwd hf1
      replace kA := kA.fwd hf1
      replace kB := kB.fwd hf1
      replace hF := hF.trans hf1
      clear hf1
      clear qc0 qc1 qc2
      clear ac0 ac1 ac2 ac3 ac4
      clear bc0 bc1 bc2 bc3 bc4
      have qc0 := BlkV.cell kQ 0 rfl
      have qz0 := BlkV.frozen kQ 0
      have qc1 := BlkV.cell kQ 1 rfl
      have qz1 := BlkV.frozen kQ 1
      have qc2 := BlkV.cell kQ 2 rfl
      have qz2 := BlkV.frozen kQ 2
      have ac0 := BlkV.cell kA 0 rfl
      have az0 := BlkV.frozen kA 0
      have ac1 := BlkV.cell kA 1 rfl
      have az1 := BlkV.frozen kA 1
      have ac2 := BlkV.cell kA 2 rfl
      have az2 := BlkV.frozen kA 2
      have ac3 := BlkV.cell kA 3 rfl
      have az3 := BlkV.frozen kA 3
      have ac4 := BlkV.cell kA 4 rfl
      have az4 := BlkV.frozen kA 4
      have bc0 := BlkV.cell kB 0 rfl
      have bz0 := BlkV.frozen kB 0
      have bc1 := BlkV.cell kB 1 rfl
      have bz1 := BlkV.frozen kB 1
      have bc2 := BlkV.cell kB 2 rfl
      have bz2 := BlkV.frozen kB 2
      have bc3 := BlkV.cell kB 3 rfl
      have bz3 := BlkV.frozen kB 3
      have bc4 := BlkV.cell kB 4 rfl
      have bz4 := BlkV.frozen kB 4
      go_wp2_with fail
      refine (rz _).mono ?_
      rintro e w2 ⟨rfl, hf2⟩
      replace kQ := kQ.fwd hf2
      replace kA := kA.fwd hf2
      replace kB := kB.fwd hf2
      replace hF := hF.trans hf2
      clear hf2
      clear qc0 qz0 qc1 qz1 qc2 qz2
      clear ac0 az0 ac1 az1 ac2 az2 ac3 az3 ac4 az4
      clear bc0 bz0 bc1 bz1 bc2 bz2 bc3 bz3 bc4 bz4
      have qc0 := BlkV.cell kQ 0 rfl
      have qz0 := BlkV.frozen kQ 0
      have qc1 := BlkV.cell kQ 1 rfl
      have qz1 := BlkV.frozen kQ 1
      have qc2 := BlkV.cell kQ 2 rfl
      have qz2 := BlkV.frozen kQ 2
      have ac0 := BlkV.cell kA 0 rfl
      have az0 := BlkV.frozen kA 0
      have ac1 := BlkV.cell kA 1 rfl
      have az1 := BlkV.frozen kA 1
      have ac2 := BlkV.cell kA 2 rfl
      have az2 := BlkV.frozen kA 2
      have ac3 := BlkV.cell kA 3 rfl
      have az3 := BlkV.frozen kA 3
      have ac4 := BlkV.cell kA 4 rfl
      have az4 := BlkV.frozen kA 4
      have bc0 := BlkV.cell kB 0 rfl
      have bz0 := BlkV.frozen kB 0
      have bc1 := BlkV.cell kB 1 rfl
      have bz1 := BlkV.frozen kB 1
      have bc2 := BlkV.cell kB 2 rfl
      have bz2 := BlkV.frozen kB 2
      have bc3 := BlkV.cell kB 3 rfl
      have bz3 := BlkV.frozen kB 3
      have bc4 := BlkV.cell kB 4 rfl
      have bz4 := BlkV.frozen kB 4
      go_wp2
      go_ret2
      exact ⟨ret_pair (by rw [HV.out]; try rfl) (by rw [HV.out]; try rfl), hF⟩
  · have HV : Hid (divV m (s, true, n, x) (t, false, k, y) o = rdV m (s != t, true, 0, 0)) := hid (by simp [divV])
    have ena : (!true && n == 0) = false := rfl
    simp only [ena] at na
    clear ena
    clear hov
    generalize rdV m (s != t, true, 0, 0) = Y at *
    obtain ⟨y1, y2⟩ := Y
    clear rz
    generalize (s != t) = st at *
    go_wp2_with fail
    refine (na _).mono ?_
    rintro e w1 ⟨rfl, hf1⟩
    replace kQ := kQ.fwd hf1
    replace kA := kA.fwd hf1
    replace kB := kB.fwd hf1
    replace hF := hF.trans hf1
    clear hf1
    clear qc0 qc1 qc2
    clear ac0 ac1 ac2 ac3 ac4
    clear bc0 bc1 bc2 bc3 bc4
    have qc0 := BlkV.cell kQ 0 rfl
    have qz0 := BlkV.frozen kQ 0
    have qc1 := BlkV.cell kQ 1 rfl
    have qz1 := BlkV.frozen kQ 1
    have qc2 := BlkV.cell kQ 2 rfl
    have qz2 := BlkV.frozen kQ 2
    have ac0 := BlkV.cell kA 0 rfl
    have az0 := BlkV.frozen kA 0
    have ac1 := BlkV.cell kA 1 rfl
    have az1 := BlkV.frozen kA 1
    have ac2 := BlkV.cell kA 2 rfl
    have az2 := BlkV.frozen kA 2
    have ac3 := BlkV.cell kA 3 rfl
    have az3 := BlkV.frozen kA 3
    have ac4 := BlkV.cell kA 4 rfl
    have az4 := BlkV.frozen kA 4
    have bc0 := BlkV.cell kB 0 rfl
    have bz0 := BlkV.frozen kB 0
    have bc1 := BlkV.cell kB 1 rfl
    have bz1 := BlkV.frozen kB 1
    have bc2 := BlkV.cell kB 2 rfl
    have bz2 := BlkV.frozen kB 2
    have bc3 := BlkV.cell kB 3 rfl
    have bz3 := BlkV.frozen kB 3
    have bc4 := BlkV.cell kB 4 rfl
    have bz4 := BlkV.frozen kB 4
    go_wp2_with fail
    refine (ri _).mono ?_
    rintro e w2 ⟨rfl, hf2⟩
    replace kQ := kQ.fwd hf2
    replace kA := kA.fwd hf2
    replace kB := kB.fwd hf2
    replace hF := hF.trans hf2
    clear hf2
    clear qc0 qz0 qc1 qz1 qc2 qz2
    clear ac0 az0 ac1 az1 ac2 az2 ac3 az3 ac4 az4
    clear bc0 bz0 bc1 bz1 bc2 bz2 bc3 bz3 bc4 bz4
    have qc0 := BlkV.cell kQ 0 rfl
    have qz0 := BlkV.frozen kQ 0
    have qc1 := BlkV.cell kQ 1 rfl
    have qz1 := BlkV.frozen kQ 1
    have qc2 := BlkV.cell kQ 2 rfl
    have qz2 := BlkV.frozen kQ 2
    have ac0 := BlkV.cell kA 0 rfl
    have az0 := BlkV.frozen kA 0
    have ac1 := BlkV.cell kA 1 rfl
    have az1 := BlkV.frozen kA 1
    have ac2 := BlkV.cell kA 2 rfl
    have az2 := BlkV.frozen kA 2
    have ac3 := BlkV.cell kA 3 rfl
    have az3 := BlkV.frozen kA 3
    have ac4 := BlkV.cell kA 4 rfl
    have az4 := BlkV.frozen kA 4
    have bc0 := BlkV.cell kB 0 rfl
    have bz0 := BlkV.frozen kB 0
    have bc1 := BlkV.cell kB 1 rfl
    have bz1 := BlkV.frozen kB 1
    have bc2 := BlkV.cell kB 2 rfl
    have bz2 := BlkV.frozen kB 2
    have bc3 := BlkV.cell kB 3 rfl
    have bz3 := BlkV.frozen kB 3
    have bc4 := BlkV.cell kB 4 rfl
    have bz4 := BlkV.frozen kB 4
    go_wp2
    go_ret2
    exact ⟨ret_pair (by rw [HV.out]; try rfl) (by rw [HV.out]; try rfl), hF⟩
  · have HV : Hid (divV m (s, true, n, x) (t, true, k, y) o = (9221120237041090560, 16)) := hid (by simp [divV])
    clear hov
    clear ri rz
    go_wp2
    go_ret2
    exact ⟨ret_pair (by rw [HV.out]; rfl) (by rw [HV.out]; rfl), hF⟩
end Go.Proofs.YtbhehgodnfcdgaaDoor
