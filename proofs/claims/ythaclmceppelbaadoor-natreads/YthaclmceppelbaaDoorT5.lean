/- A number's text is read as it was: plain mathematics. -/
import Derived.Test.YthaclmceppelbaaDoorT4
namespace Go.Proofs.YthaclmceppelbaaDoor
open Go.RowKit
set_option linter.unusedVariables false

theorem dec_head {n : Nat} (h : n ≠ 0) : (dec n).getD 0 0 ≠ 0 := by
  induction n using Nat.strongRecOn with
  | ind n ih =>
    by_cases h10 : n < 10
    · rw [dec_lt h10]; simpa using h
    · rw [dec_ge h10]
      have h1 := ih (n / 10) (by omega) (by omega)
      have h2 := dec_ne (n / 10)
      rcases hd : dec (n / 10) with _ | ⟨y, ys⟩
      · exact absurd hd h2
      · rw [hd] at h1; simpa using h1
theorem asc_getD (D : List Nat) (i : Nat) (h : i < D.length) : (asc D).getD i 0 = 48 + D.getD i 0 := by
  simp [asc, h]
theorem byt_asc {D : List Nat} (h : Dig D) : Byt (asc D) := by
  intro x hx
  simp only [asc, List.mem_map] at hx
  obtain ⟨d, hd, rfl⟩ := hx
  have := h d hd; omega
theorem digs_asc {D : List Nat} (h : Dig D) : digs (asc D) = true := by
  unfold digs
  rw [List.all_eq_true]
  intro x hx
  simp only [asc, List.mem_map] at hx
  obtain ⟨d, hd, rfl⟩ := hx
  have := h d hd
  simp; omega
theorem tval_asc (D : List Nat) : tval (asc D) = dval D := by
  unfold tval asc
  rw [List.map_map]
  congr 1
  conv => rhs; rw [← List.map_id D]
  apply List.map_congr_left
  intro d _
  simp
theorem len_asc (D : List Nat) : (asc D).length = D.length := by simp [asc]
theorem dec_len_one {n : Nat} (h : n = 0) : (dec n).length = 1 := by subst h; rfl
theorem isNum_dec (n : Nat) : isNum (asc (dec n)) = true := by
  have h1 := dec_ne n
  have h2 := digs_asc (dig_dec n)
  unfold isNum
  rw [h2]
  have hp : 0 < (dec n).length := List.length_pos_iff.2 h1
  have e : (asc (dec n)).isEmpty = false := by
    rw [List.isEmpty_eq_false_iff]
    intro e
    have := congrArg List.length e
    rw [len_asc] at this
    simp at this
    exact h1 this
  rw [e, len_asc, asc_getD _ _ hp]
  by_cases h0 : n = 0
  · rw [dec_len_one h0]; simp
  · have := dec_head h0
    have hne : (48 + (dec n).getD 0 0 == 48) = false := by simp only [beq_eq_false_iff_ne]; omega
    rw [hne]; simp
theorem len_dec (n : Nat) : (dec n).length ≤ 10 * nl n + 1 := by
  by_cases h : n = 0
  · rw [dec_len_one h]; omega
  · have h1 := dec_ne n
    have h2 := dec_head h
    rcases hd : dec n with _ | ⟨y, ys⟩
    · exact absurd hd h1
    · have hv := dval_dec n
      rw [hd, dval_cons] at hv
      rw [hd] at h2
      have hy : 1 ≤ y := by simp at h2; omega
      have h3 : 1 * 10 ^ ys.length ≤ y * 10 ^ ys.length := Nat.mul_le_mul_right _ hy
      have := digits_most (n := n) (k := ys.length) (by omega)
      rw [List.length_cons]; omega

/-- nat.Parse of a number's text. -/
theorem parse_text (w : World) (n : Nat) (hn : nl n ≤ 10000000) :
    Calls Tryd.prog 38 #[.string (textOf n)] w fun e w' => ∃ v, Fwd w w' ∧ ((400 < (textOf n).size ∧ e = .returned (.tuple #[v, .int .i64 3]) ∧ Num w' v 0) ∨ ((textOf n).size ≤ 400 ∧ e = .returned (.tuple #[v, .int .i64 0]) ∧ Num w' v n)) := by
  have hl := len_dec n
  have hs : (textOf n).size = (asc (dec n)).length := str_size rfl
  refine (parse_any w (asc (dec n)) (byt_asc (dig_dec n)) (by rw [len_asc]; omega)).mono ?_
  rintro e w1 ⟨v, hf, h | h | h⟩
  · exact ⟨v, hf, .inl ⟨by rw [hs]; exact h.1, h.2⟩⟩
  · exact absurd (isNum_dec n) (by rw [h.2.1]; simp)
  · refine ⟨v, hf, .inr ⟨by rw [hs]; exact h.1, h.2.2.1, ?_⟩⟩
    have h3 := h.2.2.2
    rwa [tval_asc, dval_dec] at h3

end Go.Proofs.YthaclmceppelbaaDoor
