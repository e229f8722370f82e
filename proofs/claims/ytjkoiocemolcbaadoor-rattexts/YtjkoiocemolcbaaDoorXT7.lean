/- Parse, both ways of telling it, of any text. -/
import Derived.Test.YtjkoiocemolcbaaDoorXT6
namespace Go.Proofs.YtjkoiocemolcbaaDoor
open Go.RowKit
set_option linter.unusedVariables false

def bytesOf (s : ByteArray) : List Nat := s.data.toList.map UInt8.toNat
theorem strOf_bytes (s : ByteArray) : s = strOf (bytesOf s) := by
  apply strOf_of
  unfold bytesOf
  rw [List.map_map]
  conv => lhs; rw [← List.map_id s.data.toList]
  apply List.map_congr_left
  intro b _
  simp
theorem byt_bytes (s : ByteArray) : Byt (bytesOf s) := by
  intro x hx
  simp only [bytesOf, List.mem_map] at hx
  obtain ⟨b, _, rfl⟩ := hx
  exact b.toNat_lt
theorem len_bytes (s : ByteArray) : (bytesOf s).length = s.size := by
  unfold bytesOf
  rw [List.length_map, Array.length_toList]; rfl

def parseE (L : List Nat) : Int := if 400 < L.length then 3 else if isNum L then 0 else 4
def parseV (L : List Nat) : Nat := if 400 < L.length then 0 else if isNum L then tval L else 0
theorem nl_parseV (L : List Nat) : nl (parseV L) ≤ 400 := by
  unfold parseV
  split
  · rw [nl_zero]; omega
  · split
    · rename_i h1 h2
      have hd : digs L = true := by
        unfold isNum at h2
        simp only [Bool.and_eq_true] at h2
        exact h2.2
      have := nl_tval hd L.length
      rw [List.take_length] at this
      omega
    · rw [nl_zero]; omega

theorem parse_each (w : World) (s : ByteArray) (hs : s.size ≤ 1000000) :
    Calls Tryd.prog 55 #[.string s] w fun e w' => ∃ v, e = .returned (.tuple #[v, .int .i64 (parseE (bytesOf s))]) ∧ Num w' v (parseV (bytesOf s)) ∧ Fwd w w' := by
  have hl := len_bytes s
  have h := parse_any w (bytesOf s) (byt_bytes s) (by omega)
  rw [← strOf_bytes] at h
  refine h.mono ?_
  rintro e w1 ⟨v, hf, h | h | h⟩
  · exact ⟨v, by unfold parseE; rw [if_pos h.1]; exact h.2.1, by unfold parseV; rw [if_pos h.1]; exact h.2.2, hf⟩
  · exact ⟨v, by unfold parseE; rw [if_neg (by omega), h.2.1]; exact h.2.2.1, by unfold parseV; rw [if_neg (by omega), h.2.1]; exact h.2.2.2, hf⟩
  · exact ⟨v, by unfold parseE; rw [if_neg (by omega), h.2.1]; exact h.2.2.1, by unfold parseV; rw [if_neg (by omega), h.2.1]; exact h.2.2.2, hf⟩

theorem refParse_each (w : World) (s : ByteArray) (hs : s.size ≤ 1000000) :
    Calls Tryd.prog 57 #[.string s] w fun e w' => ∃ v, e = .returned (.tuple #[v, .int .i64 (parseE (bytesOf s))]) ∧ Num w' v (parseV (bytesOf s)) ∧ Fwd w w' := by
  have hl := len_bytes s
  have h := refParse_any w (bytesOf s) (byt_bytes s) (by omega)
  rw [← strOf_bytes] at h
  refine h.mono ?_
  rintro e w1 ⟨v, hf, h | h | h⟩
  · exact ⟨v, by unfold parseE; rw [if_pos h.1]; exact h.2.1, by unfold parseV; rw [if_pos h.1]; exact h.2.2, hf⟩
  · exact ⟨v, by unfold parseE; rw [if_neg (by omega), h.2.1]; exact h.2.2.1, by unfold parseV; rw [if_neg (by omega), h.2.1]; exact h.2.2.2, hf⟩
  · exact ⟨v, by unfold parseE; rw [if_neg (by omega), h.2.1]; exact h.2.2.1, by unfold parseV; rw [if_neg (by omega), h.2.1]; exact h.2.2.2, hf⟩

end Go.Proofs.YtjkoiocemolcbaaDoor
