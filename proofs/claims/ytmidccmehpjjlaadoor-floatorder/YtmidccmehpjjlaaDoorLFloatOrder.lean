/- FloatOrder: two floats are in the document's order; the next ones are its: the law's walk. -/
import Derived.Test.YtmidccmehpjjlaaDoorF17
import Derived.Test.YtmidccmehpjjlaaDoorF20
import Derived.OpenShut
namespace Go.Proofs.YtmidccmehpjjlaaDoor
open Go.RowKit
set_option linter.unusedVariables false
set_option linter.unusedSimpArgs false

set_option maxHeartbeats 8000000 in
set_option maxRecDepth 100000 in
theorem floatOrder_walk {w : World} {a b n m : Int} (hR : Ru w) (ha : (Lit.int .u64 a).wf = true) (hb : (Lit.int .u64 b).wf = true) (hn : (Lit.int .i64 n).wf = true) (hm : (Lit.int .i64 m).wf = true) (up : Bool) :
    Calls Tryd.prog 5 #[.int .u64 a, .int .u64 b, .int .i64 n, .int .i64 m, .bool up] w fun e w' => e = .returned (.bool true) ∧ Below w.heap.size w w' := by
  obtain ⟨a1, a2⟩ := bounds_u64 ha
  obtain ⟨b1, b2⟩ := bounds_u64 hb
  obtain ⟨n1, n2⟩ := bounds_i64 hn
  obtain ⟨m1, m2⟩ := bounds_i64 hm
  obtain ⟨a, rfl⟩ : ∃ a' : Nat, a = (a' : Int) := ⟨a.toNat, by omega⟩
  obtain ⟨b, rfl⟩ : ∃ b' : Nat, b = (b' : Int) := ⟨b.toNat, by omega⟩
  clear ha hb hn hm
  have hF : Fwd w w := Fwd.refl w
  go_enter Tryd.func5, Tryd.ntmps5
  go_wp2_with fail
  refine (known3_any hR).mono ?_
  rintro e w1 ⟨rfl, hf1⟩
  replace hF := hF.trans hf1
  clear hf1 hR
  go_wp2_with fail
  refine (make3_any _ a n (by omega) n1 n2).mono ?_
  rintro e wq ⟨x, hx, rfl, rfl⟩
  go_wp2_with fail
  refine (make3_any _ b m (by omega) m1 m2).mono ?_
  rintro e wq ⟨y, hy, rfl, rfl⟩
  clear a1 a2 b1 b2 n1 n2 m1 m2
  have hz := nxF_lt up hx
  have c1 := fun w => cmpF_any (w := w) x y hx hy
  have c2 := fun w => cmp3_any (w := w) x y hx hy
  have c3 := fun w => next3_any (w := w) x up hx
  have c4 := fun w => cmpF_any (w := w) x (nxF x up) hx hz
  have c5 := fun w => cmp3_any (w := w) x (nxF x up) hx hz
  have c6 := fun w => nxF_any (w := w) x up hx
  generalize cmpF x y = A at *
  generalize cmpF x (nxF x up) = B at *
  generalize nxF x up = z at *
  obtain ⟨p1, p2⟩ := A
  obtain ⟨q1, q2⟩ := B
  go_wp2_with fail
  refine (c1 _).mono ?_
  rintro e wq ⟨rfl, rfl⟩
  go_wp2_with fail
  refine (c2 _).mono ?_
  rintro e wq ⟨rfl, rfl⟩
  go_wp2_with fail
  refine (c3 _).mono ?_
  rintro e wq ⟨rfl, rfl⟩
  go_wp2_with fail
  refine (c4 _).mono ?_
  rintro e wq ⟨rfl, rfl⟩
  go_wp2_with fail
  refine (c5 _).mono ?_
  rintro e wq ⟨rfl, rfl⟩
  go_wp2_with fail
  refine (c6 _).mono ?_
  rintro e wq ⟨rfl, rfl⟩
  go_wp2
  go_ret
  exact ⟨ret_bool (by simp), hF⟩
end Go.Proofs.YtmidccmehpjjlaaDoor
