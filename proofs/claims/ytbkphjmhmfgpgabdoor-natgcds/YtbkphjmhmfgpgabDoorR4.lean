/- Sub of both tellings in one form each; Small's answer taken apart. -/
import Derived.Test.YtbkphjmhmfgpgabDoorR3
import Derived.OpenShut
namespace Go.Proofs.YtbkphjmhmfgpgabDoor
open Go.RowKit
set_option linter.unusedVariables false

/-- Sub's error. -/
def subE (m n : Nat) : Int := if m < n then 1 else 0

theorem num_nil (w : World) : Num w (.slice none 0 0) 0 := by unfold Num; rw [lim_zero]; exact Rd.nil w

theorem sub_any {w : World} {a b : Value} {m n : Nat} (ha : Num w a m) (hb : Num w b n) (hm : nl m ≤ 100000000) (hn : nl n ≤ 100000000) :
    Calls Tryd.prog 18 #[a, b] w fun e w' => ∃ v, e = .returned (.tuple #[v, .int .i64 (subE m n)]) ∧ Num w' v (m - n) ∧ Fwd w w' := by
  by_cases h : m < n
  · refine (sub_less ha hb hm hn h).mono fun e w' hh => ⟨.slice none 0 0, ?_, ?_, hh.2⟩
    · rw [hh.1, subE, if_pos h]
    · rw [show m - n = 0 by omega]; exact num_nil w'
  · refine (sub_more ha hb hm hn (by omega)).mono fun e w' hh => ?_
    obtain ⟨v, he, hv, hf⟩ := hh
    exact ⟨v, by rw [he, subE, if_neg h], hv, hf⟩

theorem small_ex (n : Nat) : ∃ (s : Int) (b : Bool), smallV n = .tuple #[.int .u64 s, .bool b] := by
  unfold smallV; split
  · exact ⟨_, _, rfl⟩
  · exact ⟨_, _, rfl⟩

theorem nat_of_u64 {a : Int} (h : (Lit.int .u64 a).wf = true) : ∃ n : Nat, a = (n : Int) ∧ n < 18446744073709551616 := by
  have := bounds_u64 h
  exact ⟨a.toNat, by omega, by omega⟩

end Go.Proofs.YtbkphjmhmfgpgabDoor
