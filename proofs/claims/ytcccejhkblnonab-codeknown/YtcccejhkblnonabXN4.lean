/- The program's code: counts of a Cauchy Gen, as an oracle. -/
import Derived.Test.YtcccejhkblnonabXEVU
namespace Go.Proofs.Ytcccejhkblnonab
open Go.RowKit Go.Ev
set_option linter.unusedVariables false
set_option linter.unusedSimpArgs false

set_option maxHeartbeats 4000000 in
set_option maxRecDepth 20000 in
theorem counts5_any (w : World) (n r : Nat) (hn : n ≤ 1000) (hr : r ≤ 1000) (a b c d : Value) :
    Calls Try.prog 38 #[.agg #[.int .i64 5, .int .i64 n, .int .i64 r, a, b, c, d]] w fun e w' => e = .returned (.tuple #[.int .i64 n, .int .i64 n, .int .i64 ((n * r : Nat) : Int)]) ∧ Fwd w w' := by
  have hnr : n * r ≤ 1000000 := Nat.le_trans (Nat.mul_le_mul hn hr) (by omega)
  have kA : BlkV (w.alloc (.cells #[.int .i64 5, .int .i64 n, .int .i64 r, a, b, c, d] 26)) w.heap.size 26 [.int .i64 5, .int .i64 n, .int .i64 r, a, b, c, d] := BlkV.made' w w.heap.size (by simp) 26 [.int .i64 5, .int .i64 n, .int .i64 r, a, b, c, d]
  have hF := hid ((Fwd.refl w).alloc (.cells #[.int .i64 5, .int .i64 n, .int .i64 r, a, b, c, d] 26))
  have hm : ((n * r : Nat) : Int) = (n : Int) * (r : Int) := by simp
  have hw : IntKind.i64.wrap ((n : Int) * (r : Int)) = (n : Int) * (r : Int) := by rw [IntKind.wrap_i64, ← hm]; omega
  go_enter Try.func38, Try.ntmps38
  have c0 := BlkV.cell kA 0 rfl
  have c1 := BlkV.cell kA 1 rfl
  have c2 := BlkV.cell kA 2 rfl
  go_wp2_with fail
  go_quiet (fail)
  go_wp2_with fail
  refine bodyPost_ret (by simp [results, Try.results38, go_sem]; try rfl) rfl ?_
  exact ⟨by rw [hm], hF.out.drewN _⟩

def ansCounts5 : Ans := fun args S => match args with
  | [.agg [.lit (.int .i64 (.ofNat 5)), .lit (.int .i64 (.ofNat n)), .lit (.int .i64 (.ofNat r)), _, _, _, _]] => bif Nat.ble n 1000 && Nat.ble r 1000 then some (.tup [.one (.lit (.int .i64 (.ofNat n))), .one (.lit (.int .i64 (.ofNat n))), .one (.lit (.int .i64 (.ofNat (n * r))))]) else none
  | _ => none
def oCounts5 {st : Bool} {ν : Nat → Rat} {σ : SymD} {γ : Nat → Option (List Value)} : OP st ν σ γ where
  f := 38
  ans := ansCounts5
  ok := by
    intro args S av ha B ρ w vs hS hrr
    unfold ansCounts5 at ha
    split at ha
    · rename_i n r a b c d
      cases hb : Nat.ble n 1000 && Nat.ble r 1000 with
      | false => rw [hb] at ha; cases ha
      | true =>
        rw [hb] at ha
        simp only [cond_true, Option.some.injEq] at ha
        subst ha
        simp only [Bool.and_eq_true] at hb
        match vs, hrr with
        | [u], ⟨r1, _⟩ =>
          obtain ⟨us, rfl, hu⟩ := r1
          match us, hu with
          | [u0, u1, u2, u3, u4, u5, u6], ⟨s0, s1, s2, _⟩ =>
            obtain ⟨rfl, _⟩ : u0 = _ ∧ _ := s0
            obtain ⟨rfl, _⟩ : u1 = _ ∧ _ := s1
            obtain ⟨rfl, _⟩ : u2 = _ ∧ _ := s2
            refine (counts5_any w n r (Nat.le_of_ble_eq_true hb.1) (Nat.le_of_ble_eq_true hb.2) u3 u4 u5 u6).mono ?_
            rintro e w' ⟨rfl, hf⟩
            exact ⟨_, rfl, ⟨[.int .i64 n, .int .i64 n, .int .i64 ((n * r : Nat) : Int)], rfl, ⟨rfl, rfl⟩, ⟨rfl, rfl⟩, ⟨rfl, rfl⟩, trivial⟩, hf⟩
    · cases ha
end Go.Proofs.Ytcccejhkblnonab
