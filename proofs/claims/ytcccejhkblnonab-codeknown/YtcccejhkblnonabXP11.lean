/- Rational numbers: Text, both ways of telling it. -/
import Derived.Test.YtcccejhkblnonabYKL
import Derived.Test.YtcccejhkblnonabKI
import Derived.Test.YtcccejhkblnonabKF
namespace Go.Proofs.Ytcccejhkblnonab
open Go.RowKit
set_option linter.unusedVariables false

/-- A number's text. -/
def textS (s : Bool) (m : Nat) : ByteArray := if s then ⟨#[45]⟩ ++ textOf m else textOf m
def textR (s : Bool) (m d : Nat) : ByteArray := if d = 1 then textS s m else textS s m ++ ⟨#[47]⟩ ++ textOf d
theorem size_textOf (n : Nat) (h : nl n ≤ 100000) : (textOf n).size ≤ 1000001 := by
  rw [show (textOf n).size = (asc (dec n)).length from str_size rfl, len_asc]
  have := len_dec n
  omega
theorem size_dash (b : ByteArray) : (⟨#[45]⟩ ++ b : ByteArray).size = 1 + b.size := by rw [ByteArray.size_append]; rfl
theorem size_slash (b : ByteArray) : (b ++ ⟨#[47]⟩ : ByteArray).size = b.size + 1 := by rw [ByteArray.size_append]; rfl
theorem size_textR (s : Bool) (m d : Nat) (h1 : nl m ≤ 100000) (h2 : nl d ≤ 100000) : (textR s m d).size ≤ 2000004 := by
  have z1 := size_textOf m h1
  have z2 := size_textOf d h2
  have z3 : (textS s m).size ≤ 1000002 := by
    unfold textS
    cases s
    · rw [if_neg (by simp)]; omega
    · rw [if_pos rfl, size_dash]; omega
  unfold textR
  split
  · omega
  · rw [ByteArray.size_append, size_slash]; omega

end Go.Proofs.Ytcccejhkblnonab
