/- The program's rational numbers: Mul, Quo as numbers; slices.Clone; Neg, Abs, turn, Cmp. -/
import Derived.Test.YtcccejhkblnonaaGreatXP4
namespace Go.Proofs.YtcccejhkblnonaaGreat
open Go.RowKit
set_option linter.unusedVariables false

theorem RV.rw' {w : World} {v : Value} {q : Rat} (h : RV w v q) : RW w v (negQ q) q.num.natAbs q.den := h
theorem RV.drew {w : World} {v : Value} {q : Rat} (h : RV w v q) : RV w.drew v q := h
theorem RV.keepV {w w' : World} {v : Value} {q : Rat} {g : Nat} {T : TypeId} {cs : List Value} (h : RV w v q) (hb : BlkV w g T cs) (hcs : ∀ c ∈ cs, ∀ x, c ≠ .int .u32 x) (k : Only g w w') : RV w' v q := RW.keepV h hb hcs k
theorem nr_le {q : Rat} {B : Nat} (h : nr q ≤ B) : nl q.num.natAbs ≤ B ∧ nl q.den ≤ B := ⟨Nat.le_trans (nr_num q) h, Nat.le_trans (nr_den q) h⟩

theorem rmul_any {w : World} {a b : Value} {p q : Rat} (ha : RV w a p) (hb : RV w b q) (bp : nr p ≤ 10000) (bq : nr q ≤ 10000) :
    Calls Tryz.prog 76 #[a, b] w fun e w' => ∃ v, e = .returned v ∧ RV w' v (p * q) ∧ Fwd w w' := by
  refine (rmul_raw ha.rw' (nr_le bp).1 (nr_le bp).2 hb.rw' (nr_le bq).1 (nr_le bq).2 p.den_nz q.den_nz).mono ?_
  rintro e w' ⟨v, rfl, hv, hf⟩
  obtain ⟨e1, e2, e3⟩ := Q_times p q
  refine ⟨v, rfl, ?_, hf⟩
  unfold RV
  rw [e1, e2, e3]
  exact hv

theorem rquo_any {w : World} {a b : Value} {p q : Rat} (ha : RV w a p) (hb : RV w b q) (bp : nr p ≤ 10000) (bq : nr q ≤ 10000) (hq : q ≠ 0) :
    Calls Tryz.prog 77 #[a, b] w fun e w' => ∃ v, e = .returned (.tuple #[v, .int .i64 0]) ∧ RV w' v (p / q) ∧ Fwd w w' := by
  have hq0 : q.num.natAbs ≠ 0 := fun h => hq ((natAbs_zero_iff q).1 h)
  refine (rquo_raw ha.rw' (nr_le bp).1 (nr_le bp).2 hb.rw' (nr_le bq).1 (nr_le bq).2 p.den_nz hq0).mono ?_
  rintro e w' ⟨v, rfl, hv, hf⟩
  obtain ⟨e1, e2, e3⟩ := Q_times p q⁻¹
  obtain ⟨i1, i2, i3⟩ := Q_inv hq
  rw [i2, i3] at e1 e2 e3
  rw [i1] at e3
  refine ⟨v, rfl, ?_, hf⟩
  unfold RV
  rw [Rat.div_def, e1, e2, e3]
  exact hv

theorem rquo_nought {w : World} {a b : Value} {p q : Rat} (ha : RV w a p) (hb : RV w b q) (bp : nr p ≤ 10000) (bq : nr q ≤ 10000) (hq : q = 0) :
    Calls Tryz.prog 77 #[a, b] w fun e w' => e = .returned (.tuple #[ratZero, .int .i64 5]) ∧ Fwd w w' :=
  rquo_zero ha.rw' (nr_le bp).1 (nr_le bp).2 hb.rw' (nr_le bq).1 (nr_le bq).2 ((natAbs_zero_iff q).2 hq)

set_option maxHeartbeats 4000000 in
set_option maxRecDepth 20000 in
theorem rclone_any {w : World} {a : Value} {n : Nat} (ha : Num w a n) (hn : nl n ≤ 1000000) :
    Calls Tryz.prog 75 #[a] w fun e w' => ∃ v, e = .returned v ∧ Num w' v n ∧ Fwd w w' := by
  have hnum := ha
  rcases ha.2 with ⟨rfl, h0⟩ | ⟨b, off, cap, rfl, h1, h2, h3, h4⟩
  · have hnil := fun wx => Lib.run_eql_slice_nil (P := Tryz.prog) wx 32 44 none 0 0 0 0 Tryz.underlying32
    go_enter Tryz.func75, Tryz.ntmps75
    go_wp2
    go_ret
    exact ⟨_, rfl, ha, Fwd.refl w⟩
  · have hll : (lim n).length ≤ 1000000000 := by show nl n ≤ _; omega
    have hg : (w.alloc (.cells #[] 44)).heap[w.heap.size]? = some (.cells #[] 44 (0, 0)) := heap_alloc_new w _
    have HG := hid hg
    have hf3 : Fwd w (w.alloc (.cells #[] 44)) := (Fwd.refl w).alloc _
    have HA : Hid (Arg (w.alloc (.cells #[] 44)) (.slice (some ⟨b, off, none⟩) (lim n).length cap) (lim n)) := hid (.inl (hnum.fwd hf3))
    have HF3 := hid hf3
    have hnil := fun wx => Lib.run_eql_slice_nil (P := Tryz.prog) wx 32 44 (some ⟨b, off, none⟩) (lim n).length cap 0 0 Tryz.underlying32
    clear hg hf3 h3 hnum ha
    go_enter Tryz.func75, Tryz.ntmps75
    go_wp2_with (at_builtin; refine law_append0 rfl (.tmp 5) (.tmp 6) rfl w.heap.size rfl HG.out _ (lim n) rfl HA.out hll ?_)
    intro v' w4 hr hne hon4 hbl
    have hF4 : Fwd w w4 := HF3.out.wrote hon4 (Nat.le_refl _)
    clear hne hon4 hbl HA HG
    go_wp2_with fail
    go_ret
    exact ⟨_, rfl, hr, hF4⟩

theorem signed_abs {w : World} {n d : Value} {N D : Nat} (hn : Num w n N) (hd : Num w d D) (hN : nl N ≤ 1000000) :
    Calls Tryz.prog 91 #[.bool false, n, d] w fun e w' => ∃ v, e = .returned v ∧ RW w' v false N D ∧ Fwd w w' := signed_raw false hn hd hN

/-- What holds of sizes, turned about below nought. -/
def turnI (s : Bool) (n : Int) : Int := if s then -n else n

end Go.Proofs.YtcccejhkblnonaaGreat
