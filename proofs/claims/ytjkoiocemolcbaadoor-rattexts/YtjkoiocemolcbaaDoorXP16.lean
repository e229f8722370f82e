/- What Parse makes of a number's own text. -/
import Derived.Test.YtjkoiocemolcbaaDoorXP15
import Derived.Test.YtjkoiocemolcbaaDoorXP11
namespace Go.Proofs.YtjkoiocemolcbaaDoor
open Go.RowKit
set_option linter.unusedVariables false

/-- A number's digits, as bytes. -/
def digB (n : Nat) : List UInt8 := (asc (dec n)).map UInt8.ofNat
theorem digB_mem {n : Nat} {c : UInt8} (h : c ∈ digB n) : 48 ≤ c.toNat ∧ c.toNat ≤ 57 := by
  unfold digB asc at h
  rw [List.map_map, List.mem_map] at h
  obtain ⟨d, hd, rfl⟩ := h
  have := dig_dec n d hd
  simp only [Function.comp]
  rw [UInt8.toNat_ofNat_of_lt' (by show _ < 256; omega)]
  omega
theorem digB_no {n : Nat} (c : UInt8) (hc : c.toNat < 48) : c ∉ digB n := by
  intro h
  have := digB_mem h
  omega
theorem textOf_data (n : Nat) : (textOf n).data.toList = digB n := by
  unfold textOf
  rw [strOf_list]
  rfl
theorem indexByte_none {l : List UInt8} {c : UInt8} (h : c ∉ l) : Lib.indexByte l c = -1 := by
  induction l with
  | nil => rfl
  | cons x xs ih =>
    have h1 : ¬ x = c := fun e => h (by simp [e])
    have h2 := ih (fun e => h (by simp [e]))
    simp [Lib.indexByte, h1, h2]
theorem indexByte_at {l r : List UInt8} {c : UInt8} (h : c ∉ l) : Lib.indexByte (l ++ c :: r) c = l.length := by
  induction l with
  | nil => simp [Lib.indexByte]
  | cons x xs ih =>
    have h1 : ¬ x = c := fun e => h (by simp [e])
    have h2 := ih (fun e => h (by simp [e]))
    have h3 : ¬ ((xs.length : Int) = -1) := by omega
    simp [Lib.indexByte, h1, h2, h3]
theorem data_extract (s : ByteArray) (a b : Nat) : (s.extract a b).data.toList = (s.data.toList.drop a).take (b - a) := by
  rw [← Lib.toList_data, Lib.extract_toList]
theorem hasMinus_data (s : ByteArray) : hasMinus s = (s.data.toList.head? == some 45) := by
  unfold hasMinus
  rw [Lib.toList_data, data_extract, Lib.size_eq]
  cases s.data.toList with
  | nil => rfl
  | cons x xs => simp
theorem bytesOf_dig {s : ByteArray} {n : Nat} (h : s.data.toList = digB n) : bytesOf s = asc (dec n) := by
  unfold bytesOf
  rw [h]
  unfold digB
  rw [List.map_map]
  conv => rhs; rw [← List.map_id (asc (dec n))]
  apply List.map_congr_left
  intro x hx
  unfold asc at hx
  rw [List.mem_map] at hx
  obtain ⟨d, hd, rfl⟩ := hx
  have := dig_dec n d hd
  simp only [Function.comp, id]
  rw [UInt8.toNat_ofNat_of_lt' (by show _ < 256; omega)]
theorem parse_dig {s : ByteArray} {n : Nat} (h : s.data.toList = digB n) (hl : (dec n).length ≤ 400) : parseE (bytesOf s) = 0 ∧ parseV (bytesOf s) = n := by
  rw [bytesOf_dig h]
  have h4 : ¬ 400 < (asc (dec n)).length := by rw [len_asc]; omega
  unfold parseE parseV
  rw [if_neg h4, if_neg h4, isNum_dec, tval_asc, dval_dec]
  exact ⟨rfl, rfl⟩
def signB (s : Bool) : List UInt8 := if s then [45] else []
theorem digB_ne (n : Nat) : digB n ≠ [] := by
  unfold digB asc
  simp
  exact dec_ne n
theorem digB_head (n : Nat) (r : List UInt8) : ((digB n ++ r).head? == some 45) = false := by
  have h := digB_no (n := n) 45 (by decide)
  cases hd : digB n with
  | nil => exact absurd hd (digB_ne n)
  | cons x xs =>
    rw [hd] at h
    have hx : ¬ x = 45 := fun e => h (by simp [e])
    simpa using hx
/-- A number's text, in any terms. -/
theorem parse_told {T : ByteArray} {s : Bool} {m n : Nat} (hm : (dec m).length ≤ 400) (hn : (dec n).length ≤ 400) (hT : T.data.toList = signB s ++ (digB m ++ 47 :: digB n)) :
    parseQE T = (if n = 0 then 5 else 0) ∧ parseQV T = mkQ s m n := by
  have hs : hasMinus T = s := by
    rw [hasMinus_data, hT]
    cases s
    · exact digB_head m _
    · rfl
  have hr : (restOf T).data.toList = digB m ++ 47 :: digB n := by
    unfold restOf
    rw [hs]
    cases s
    · rw [if_neg (by simp), hT]; rfl
    · rw [if_pos rfl, data_extract, Lib.size_eq, hT]
      simp only [signB, if_true, List.singleton_append, List.drop_succ_cons, List.drop_zero]
      exact List.take_of_length_le (by simp)
  have h47 : (47 : UInt8) ∉ digB m := digB_no 47 (by decide)
  have h47n : (47 : UInt8) ∉ digB n := digB_no 47 (by decide)
  have hk : strokes (restOf T) = 1 := by
    unfold strokes Lib.countByte
    rw [hr, List.count_append, List.count_cons_self, List.count_eq_zero.2 h47, List.count_eq_zero.2 h47n]
  have hc : cutAt (restOf T) = ((digB m).length : Int) := by
    unfold cutAt
    rw [hr]
    exact indexByte_at h47
  have hcn : ¬ cutAt (restOf T) < 0 := by rw [hc]; omega
  have ha : (aboveOf (restOf T)).data.toList = digB m := by
    unfold aboveOf
    rw [if_neg hcn, data_extract, hr, hc]
    simp
  have hb : (belowOf (restOf T)).data.toList = digB n := by
    unfold belowOf
    rw [if_neg hcn, data_extract, hr, hc, Lib.size_eq, hr]
    simp only [Int.toNat_natCast]
    rw [List.drop_append, List.drop_of_length_le (by omega)]
    simp only [List.nil_append, Nat.add_sub_cancel_left, List.drop_succ_cons, List.drop_zero]
    exact List.take_of_length_le (by simp; omega)
  obtain ⟨a1, a2⟩ := parse_dig ha hm
  obtain ⟨b1, b2⟩ := parse_dig hb hn
  unfold parseQE parseQV
  rw [hk, a1, b1, a2, b2, hs]
  simp
/-- A whole number's. -/
theorem parse_whole {T : ByteArray} {s : Bool} {m : Nat} (hm : (dec m).length ≤ 400) (hT : T.data.toList = signB s ++ digB m) :
    parseQE T = 0 ∧ parseQV T = mkQ s m 1 := by
  have hs : hasMinus T = s := by
    rw [hasMinus_data, hT]
    cases s
    · have := digB_head m []
      rw [List.append_nil] at this
      exact this
    · rfl
  have hr : (restOf T).data.toList = digB m := by
    unfold restOf
    rw [hs]
    cases s
    · rw [if_neg (by simp), hT]; rfl
    · rw [if_pos rfl, data_extract, Lib.size_eq, hT]
      simp only [signB, if_true, List.singleton_append, List.drop_succ_cons, List.drop_zero]
      exact List.take_of_length_le (by simp)
  have h47 : (47 : UInt8) ∉ digB m := digB_no 47 (by decide)
  have hk : strokes (restOf T) = 0 := by
    unfold strokes Lib.countByte
    rw [hr, List.count_eq_zero.2 h47]
  have hc : cutAt (restOf T) = -1 := by
    unfold cutAt
    rw [hr]
    exact indexByte_none h47
  have hcn : cutAt (restOf T) < 0 := by rw [hc]; omega
  have ha : (aboveOf (restOf T)).data.toList = digB m := by
    unfold aboveOf
    rw [if_pos hcn, hr]
  have hb : belowOf (restOf T) = ⟨#[49]⟩ := by
    unfold belowOf
    rw [if_pos hcn]
  obtain ⟨a1, a2⟩ := parse_dig ha hm
  have b1 : parseE (bytesOf ⟨#[49]⟩) = 0 := by decide +kernel
  have b2 : parseV (bytesOf ⟨#[49]⟩) = 1 := by decide +kernel
  unfold parseQE parseQV
  rw [hk, hb, a1, b1, a2, b2, hs]
  simp
/-- A number's own text is read as it was. -/
theorem textR_data (s : Bool) (m d : Nat) : (textR s m d).data.toList = signB s ++ (if d = 1 then digB m else digB m ++ 47 :: digB d) := by
  have h : (textS s m).data.toList = signB s ++ digB m := by
    unfold textS signB
    cases s
    · rw [if_neg (by simp), if_neg (by simp), textOf_data]; rfl
    · rw [if_pos rfl, if_pos rfl, ByteArray.data_append, Array.toList_append, textOf_data]
  unfold textR
  split
  · exact h
  · rw [ByteArray.data_append, Array.toList_append, ByteArray.data_append, Array.toList_append, h, textOf_data]
    simp
theorem parse_own (q : Rat) (h1 : (dec q.num.natAbs).length ≤ 400) (h2 : (dec q.den).length ≤ 400) : parseQE (textR (negQ q) q.num.natAbs q.den) = 0 ∧ parseQV (textR (negQ q) q.num.natAbs q.den) = q := by
  have h := textR_data (negQ q) q.num.natAbs q.den
  by_cases hd : q.den = 1
  · rw [if_pos hd] at h
    obtain ⟨e1, e2⟩ := parse_whole h1 h
    refine ⟨e1, ?_⟩
    rw [e2, ← hd, mkQ_self]
  · rw [if_neg hd] at h
    obtain ⟨e1, e2⟩ := parse_told h1 h2 h
    rw [if_neg q.den_nz] at e1
    exact ⟨e1, by rw [e2, mkQ_self]⟩

end Go.Proofs.YtjkoiocemolcbaaDoor
