/- The second telling of natural numbers: trim, at, Add, less, Sub, Of. -/
/- The second telling of natural numbers: less, Sub, Of, Small; nat's Small and Right. -/
/- The second telling of natural numbers: Mul. -/
/- Sub of both tellings in one form each; Small's answer taken apart. -/
import Derived.Test.YtimlpehgafjkpaaKB
import Derived.OpenShut
namespace Go.Proofs.Ytimlpehgafjkpaa
open Go.RowKit
set_option linter.unusedVariables false

end Go.Proofs.Ytimlpehgafjkpaa

namespace Go.Proofs.Ytimlpehgafjkpaa
open Go.RowKit
set_option linter.unusedVariables false

theorem nl_le_two {n : Nat} : nl n ≤ 2 ↔ n < 18446744073709551616 := by rw [nl_le_iff]

/-- What Small answers. -/
def smallV (n : Nat) : Value := if n < 18446744073709551616 then .tuple #[.int .u64 n, .bool true] else .tuple #[.int .u64 0, .bool false]

theorem lim_two {n : Nat} (h : n < 18446744073709551616) : (lim n).getD 0 0 = n % 4294967296 ∧ (lim n).getD 1 0 = n / 4294967296 := by
  by_cases h0 : n = 0
  · subst h0; simp [lim_zero]
  · rw [lim_pos h0]
    refine ⟨rfl, ?_⟩
    by_cases h1 : n / 4294967296 = 0
    · rw [h1, lim_zero]; rfl
    · rw [lim_pos h1]
      show n / 4294967296 % 4294967296 = _
      omega

theorem or_zero (a : Nat) (ha : a < 18446744073709551616) : bits .or .u64 0 (a : Int) = (a : Int) := by
  have := u64_or_nat 0 a (by omega) ha
  simpa using this
theorem or_join2 (a b : Nat) (ha : a < 4294967296) (hb : b < 4294967296) : bits .or .u64 (a : Int) ((b : Int) * 4294967296) = ((b * 4294967296 + a : Nat) : Int) := by
  rw [show (b : Int) * 4294967296 = ((b * 4294967296 : Nat) : Int) by simp, u64_or_nat _ _ (by omega) (by omega), Nat.or_comm, nat_join 32 _ _ (by omega) (by omega)]

end Go.Proofs.Ytimlpehgafjkpaa

namespace Go.Proofs.Ytimlpehgafjkpaa
open Go.RowKit
set_option linter.unusedVariables false

theorem Blk.drewN {w : World} {g : Nat} {L : List Nat} (h : Blk w g L) (n : Nat) : Blk (w.drewN n) g L := h
theorem Only.drewN {g : Nat} {a w : World} (h : Only g a w) (n : Nat) : Only g a (w.drewN n) := ⟨h.os, h.tape, h.output, h.size, h.block⟩

end Go.Proofs.Ytimlpehgafjkpaa

namespace Go.Proofs.Ytimlpehgafjkpaa
open Go.RowKit
set_option linter.unusedVariables false

/-- Sub's error. -/
def subE (m n : Nat) : Int := if m < n then 1 else 0

theorem num_nil (w : World) : Num w (.slice none 0 0) 0 := by unfold Num; rw [lim_zero]; exact Rd.nil w

theorem small_ex (n : Nat) : ∃ (s : Int) (b : Bool), smallV n = .tuple #[.int .u64 s, .bool b] := by
  unfold smallV; split
  · exact ⟨_, _, rfl⟩
  · exact ⟨_, _, rfl⟩

theorem nat_of_u64 {a : Int} (h : (Lit.int .u64 a).wf = true) : ∃ n : Nat, a = (n : Int) ∧ n < 18446744073709551616 := by
  have := bounds_u64 h
  exact ⟨a.toNat, by omega, by omega⟩

end Go.Proofs.Ytimlpehgafjkpaa
