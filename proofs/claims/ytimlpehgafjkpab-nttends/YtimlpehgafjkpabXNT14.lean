/- Contract: the second telling's Transform. -/
import Derived.Test.YtimlpehgafjkpabXNT13
namespace Go.Proofs.Ytimlpehgafjkpab
open Go.RowKit Go.Maps
set_option linter.unusedVariables false
set_option linter.unusedSimpArgs false

def powOk : Bool := (List.range 1025).all fun n => n == 0 || ((bits .and .i64 (n : Int) ((n : Int) - 1) == 0) == isPow n)
theorem powOk_true : powOk = true := by decide +kernel
theorem pow_bits {n : Nat} (h0 : 0 < n) (hn : n ≤ 1024) : (bits .and .i64 (n : Int) ((n : Int) - 1) == 0) = isPow n := by
  have h := powOk_true
  unfold powOk at h
  rw [List.all_eq_true] at h
  have h1 := h n (List.mem_range.2 (by omega))
  rw [Bool.or_eq_true] at h1
  rcases h1 with h1 | h1
  · simp at h1; omega
  · exact eq_of_beq h1

/-- What is wanted for one number more behind an own row. -/
theorem Own.more {w : World} {base : Nat} {v : Value} {zs : List Nat} (hO : Own w base v zs) (hb : base ≤ w.heap.size) (c : Nat) :
    Hid (Own (w.alloc (.cells #[.int .u32 (c : Int)] 27)) base v zs) ∧ Hid ((w.alloc (.cells #[.int .u32 (c : Int)] 27)).cell? ⟨w.heap.size, 0, none⟩ = some (.int .u32 (c : Int))) ∧ Hid (base ≤ (w.alloc (.cells #[.int .u32 (c : Int)] 27)).heap.size) := by
  refine ⟨hid (hO.alloc _), hid ?_, hid (by simp; omega)⟩
  rw [cell_of_row _ w.heap.size 0 _ _ _ (heap_alloc_new w _)]; rfl

theorem isPow_pos {n : Nat} (h : isPow n = true) : 0 < n ∧ n ≤ 1024 := by
  obtain ⟨t, ht, e⟩ := isPow_iff.1 h
  have hp : 2 ^ t ≤ 2 ^ 10 := Nat.pow_le_pow_right (by omega) (by omega)
  have := Nat.two_pow_pos t
  omega
theorem trF_take (back : Bool) (xs : List Nat) (k : Nat) (hk : k < xs.length) : (trF back xs).take (k + 1) = (trF back xs).take k ++ [vF (dft (fF xs) (rtF back xs.length) xs.length k * shF back xs.length)] := by
  rw [List.take_succ_eq_append_getElem (by rw [trF_len]; exact hk)]
  simp [trF]

/-- The sum so far of a row. -/
def SInn (xs : List Nat) (r : F) (k : Nat) (j S q : Nat) : Prop := S ≤ j * 998244353 ∧ q < 998244353 ∧ cF S = sm (fun i => fF xs i * r ^ (i * k)) j ∧ cF q = r ^ (j * k)
theorem SInn.start (xs : List Nat) (r : F) (k : Nat) : SInn xs r k 0 0 1 := ⟨by omega, by omega, rfl, by rw [Nat.zero_mul, rpow_zero]; rfl⟩
theorem SInn.step {xs : List Nat} {r : F} {k j S q p : Nat} (h : SInn xs r k j S q) (hp : cF p = r ^ k) : SInn xs r k (j + 1) (S + xs.getD j 0 * q % 998244353) (q * p % 998244353) := by
  obtain ⟨h1, h2, h3, h4⟩ := h
  have hm : xs.getD j 0 * q % 998244353 < 998244353 := Nat.mod_lt _ (by omega)
  refine ⟨?_, Nat.mod_lt _ (by omega), ?_, ?_⟩
  · rw [Nat.succ_mul]
    exact Nat.add_le_add h1 (Nat.le_of_lt hm)
  · rw [cF_add, cF_mod, cF_mul, h3, h4]; rfl
  · rw [cF_mod, cF_mul, h4, hp, ← rpow_add, Nat.succ_mul]

theorem rt_of (back : Bool) (n : Nat) : rtF back n = if back then ivF (cF 3 ^ (998244352 / n)) else cF 3 ^ (998244352 / n) := by
  unfold rtF
  cases back with
  | false => rw [if_neg (by simp), if_neg (by simp)]
  | true =>
    rw [if_pos rfl, if_pos rfl]
    unfold ivF
    rw [rpow_comm]

end Go.Proofs.Ytimlpehgafjkpab
