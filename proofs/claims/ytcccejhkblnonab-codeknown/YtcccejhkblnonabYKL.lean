/- The program's rational numbers: size, Of, Mul, Quo. -/
/- The program's rational numbers: Quo; what stands above a denominator: above, times, plus, minus. -/
/- The program's rational numbers: Mul, Quo as numbers; slices.Clone; Neg, Abs, turn, Cmp. -/
/- The program's rational numbers: slices.Equal, shapeOf, Same. -/
import Derived.Test.YtcccejhkblnonabXP2
import Derived.Deep.RegionHeld3
namespace Go.Proofs.Ytcccejhkblnonab
open Go.RowKit
set_option linter.unusedVariables false

end Go.Proofs.Ytcccejhkblnonab

namespace Go.Proofs.Ytcccejhkblnonab
open Go.RowKit
set_option linter.unusedVariables false

/-- The struct v is a sign and a size. -/
def WH (w : World) (v : Value) (s : Bool) (m : Nat) : Prop := ∃ vN, v = .agg #[.bool s, vN] ∧ Num w vN m
theorem WH.fwd {w w' : World} {v : Value} {s : Bool} {m : Nat} (h : WH w v s m) (k : Fwd w w') : WH w' v s m := by
  obtain ⟨vN, e, h1⟩ := h
  exact ⟨vN, e, h1.fwd k⟩
theorem WH.open {w : World} {v : Value} {s : Bool} {m : Nat} (h : WH w v s m) : ∃ no nc, v = .agg #[.bool s, .slice no (nl m) nc] ∧ nl m ≤ nc ∧ nc ≤ 9223372036854775807 ∧ Num w (.slice no (nl m) nc) m := by
  obtain ⟨vN, rfl, h1⟩ := h
  obtain ⟨no, nc, rfl, a1, a2, _⟩ := h1.parts
  unfold maxLen at a2
  exact ⟨no, nc, rfl, a1, by omega, h1⟩
theorem WH.keepV {w w' : World} {v : Value} {s : Bool} {m g : Nat} {T : TypeId} {cs : List Value} (h : WH w v s m) (hb : BlkV w g T cs) (hcs : ∀ c ∈ cs, ∀ x, c ≠ .int .u32 x) (k : Only g w w') : WH w' v s m := by
  obtain ⟨a, e, h3⟩ := h
  exact ⟨a, e, h3.keepV hb hcs k⟩
theorem WH.drew {w : World} {v : Value} {s : Bool} {m : Nat} (h : WH w v s m) : WH w.drew v s m := h
theorem nl_plus (s : Bool) (m : Nat) (t : Bool) (n : Nat) : nl (plusN s m t n) ≤ max (nl m) (nl n) + 1 := by
  unfold plusN
  split
  · have := nl_add m n; omega
  · split
    · have := nl_sub n m; omega
    · have := nl_sub m n; omega

end Go.Proofs.Ytcccejhkblnonab

namespace Go.Proofs.Ytcccejhkblnonab
open Go.RowKit
set_option linter.unusedVariables false

theorem RV.rw' {w : World} {v : Value} {q : Rat} (h : RV w v q) : RW w v (negQ q) q.num.natAbs q.den := h
theorem RV.drew {w : World} {v : Value} {q : Rat} (h : RV w v q) : RV w.drew v q := h
theorem RV.keepV {w w' : World} {v : Value} {q : Rat} {g : Nat} {T : TypeId} {cs : List Value} (h : RV w v q) (hb : BlkV w g T cs) (hcs : ∀ c ∈ cs, ∀ x, c ≠ .int .u32 x) (k : Only g w w') : RV w' v q := RW.keepV h hb hcs k
theorem nr_le {q : Rat} {B : Nat} (h : nr q ≤ B) : nl q.num.natAbs ≤ B ∧ nl q.den ≤ B := ⟨Nat.le_trans (nr_num q) h, Nat.le_trans (nr_den q) h⟩

/-- What holds of sizes, turned about below nought. -/
def turnI (s : Bool) (n : Int) : Int := if s then -n else n

end Go.Proofs.Ytcccejhkblnonab

namespace Go.Proofs.Ytcccejhkblnonab
open Go.RowKit
set_option linter.unusedVariables false

theorem take_more {xs ys : List Nat} {k : Nat} (h : xs.take k = ys.take k) (h1 : k < xs.length) (h2 : k < ys.length) (he : xs.getD k 0 = ys.getD k 0) : xs.take (k + 1) = ys.take (k + 1) := by
  rw [List.take_succ_eq_append_getElem h1, List.take_succ_eq_append_getElem h2, h]
  simp [List.getD_eq_getElem?_getD, h1, h2] at he
  rw [he]

set_option maxHeartbeats 4000000 in
set_option maxRecDepth 20000 in
theorem shapeOf_any {w : World} {a : Value} {sa : Bool} {ma da : Nat} (ha : RW w a sa ma da) (bam : nl ma ≤ 1000000) (bad : nl da ≤ 1000000) :
    Calls Try.prog 58 #[a] w fun e w' => e = .returned (.agg #[.bool sa, .int .i64 (nl ma), .int .i64 (nl da)]) ∧ Fwd w w' := by
  obtain ⟨ao, ac, ap, ae, rfl, a1, a2, a3, a4, aN, aD⟩ := RW.open ha
  clear ha
  go_enter Try.func58, Try.ntmps58
  go_wp2_with fail
  have hf := ((Fwd.refl w).alloc (.cells #[.bool sa, .slice ao (nl ma) ac, .slice ap (nl da) ae] 32)).alloc (.cells #[.bool sa, .int .i64 (nl ma), .int .i64 (nl da)] 101)
  refine bodyPost_ret (by simp [results, Try.results58, go_sem]; try rfl) rfl ?_
  exact ⟨rfl, hf⟩

end Go.Proofs.Ytcccejhkblnonab
