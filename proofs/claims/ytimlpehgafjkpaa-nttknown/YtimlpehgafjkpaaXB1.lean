/- Binary digits; a byte of a constant table. -/
import Derived.Test.YtimlpehgafjkpaaKA
import Derived.Lib.Tables
import Derived.Deep.Cut
namespace Go.Proofs.Ytimlpehgafjkpaa
open Go.RowKit
set_option linter.unusedVariables false

/-- How many binary digits. -/
def blen (n : Nat) : Nat := if n = 0 then 0 else Nat.log2 n + 1
theorem blen_zero : blen 0 = 0 := rfl
theorem blen_le_iff (n k : Nat) : blen n ≤ k ↔ n < 2 ^ k := by
  unfold blen
  split
  · rename_i h; subst h; simp [Nat.two_pow_pos]
  · rename_i h; rw [← Nat.log2_lt h]; omega
theorem blen_eq {n k : Nat} (h1 : 2 ^ k ≤ n) (h2 : n < 2 ^ (k + 1)) : blen n = k + 1 := by
  have a := (blen_le_iff n (k + 1)).2 h2
  have b : ¬ blen n ≤ k := fun h => by have := (blen_le_iff n k).1 h; omega
  omega
theorem blen_div (n k : Nat) (h : 2 ^ k ≤ n) : blen n = blen (n / 2 ^ k) + k := by
  have hp := Nat.two_pow_pos k
  have h1 : ∀ j, blen n ≤ j + k ↔ blen (n / 2 ^ k) ≤ j := by
    intro j
    rw [blen_le_iff, blen_le_iff, Nat.div_lt_iff_lt_mul hp, Nat.pow_add]
  have h2 : ¬ blen n ≤ k := fun h' => by have := (blen_le_iff n k).1 h'; omega
  have a := (h1 (blen (n / 2 ^ k))).2 (Nat.le_refl _)
  have b := (h1 (blen n - k)).1 (by omega)
  omega
theorem len8_blen : ∀ i : Fin 256, Lib.len8 (i.val : Int) = (blen i.val : Int) := by decide +kernel

theorem ret_int {k : IntKind} {a b : Int} (h : a = b) : Ending.returned (.int k a) = .returned (.int k b) := by rw [h]
theorem blen_half {x : Nat} (h : 0 < x) : blen x = blen (x / 2) + 1 := by
  by_cases h1 : x = 1
  · subst h1; decide
  · exact blen_div x 1 (by omega)

theorem run_str (w : World) (s : ByteArray) (hs : s.size = 256) (k : IntKind) (y b : Nat) (hy : y < 256) (hb : (s[y]?).map (·.toNat) = some b) : (Instr.index 9 (.string s) (.int k (y : Int))).run Try.prog w = .ok (.int .u8 (b : Nat)) w := by
  have hi : 0 ≤ (y : Int) ∧ (y : Int) < (s.size : Int) := by rw [hs]; omega
  have h2 : y < s.size := by rw [hs]; omega
  rw [run_index_string w 9 s k y Try.underlying9, dif_pos hi]
  simp only [Int.toNat_natCast]
  congr 2
  have h4 : s[y]? = some s[y] := getElem?_pos s y h2
  rw [h4] at hb
  simp at hb
  rw [hb]

/-- A byte of a constant table. -/
theorem law_tab {w : World} {ops : Array Oper} {rest : List Oper} {o : Oper} {a : Act} {Q : Exit → Act → World → Prop} (hgd : o.guard = none) {s : ByteArray} (x : Operand)
    (ho : o.op = .index 9 (.const (.string s)) x) (hs : s.size = 256) (hall : ∀ i : Fin 256, (s[i.val]?).map (·.toNat) = some (blen i.val)) (k : IntKind) (v : Int) (y : Nat) (hx : a.eval x = .int k v) (hv : v = (y : Int)) (hy : y < 256)
    (h : wpList Try.prog ops Q rest (a.put o.dst (.int .u8 (blen y : Nat))) w) : wpList Try.prog ops Q (o :: rest) a w := by
  subst hv
  refine wpList_plain hgd fun K hK => ?_
  have hrun := run_str w s hs k y (blen y) hy (hall ⟨y, hy⟩)
  have hc : a.eval (.const (.string s)) = .string s := rfl
  unfold Oper.wp
  simp [execOp, ho, hx, hc, hrun, Result.andThen]
  exact hK _ _ h
end Go.Proofs.Ytimlpehgafjkpaa
