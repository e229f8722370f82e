/- What rat's Parse needs of package strings: CutPrefix by a minus sign, Count and Cut by a stroke. -/
import Derived.Test.YtjkoiocemolcbaaDoorXT7
import Derived.Lib.Strings
import Derived.Lib.Bytealg
namespace Go.Proofs.YtjkoiocemolcbaaDoor
open Go.RowKit
set_option linter.unusedVariables false
set_option maxRecDepth 100000

set_option maxHeartbeats 1000000 in
theorem countSlash_any (s : ByteArray) (w : World) :
    Calls Tryd.prog 53 #[.string s, .string ⟨#[47]⟩] w fun e w' => e = .returned (.int .i64 (Lib.countByte s.data.toList 47)) ∧ w = w' := by
  go_enter Tryd.func53, Tryd.ntmps53
  go_wp2
  rw [run_callFunc_extern Tryd.func82 (by kernel_rfl) (by kernel_rfl) (by kernel_rfl) (e := Extern.BytealgCount.count) (by kernel_rfl), Lib.run_countString]
  simp only [Result.andThen]
  rw [Oper.upon_value]
  go_wp2
  go_ret
  exact ⟨rfl, rfl⟩

set_option maxHeartbeats 1000000 in
theorem indexByteLite_any (s : ByteArray) (w : World) :
    Calls Tryd.prog 118 #[.string s, .int .u8 47] w fun e w' => e = .returned (.int .i64 (Lib.indexByte s.data.toList 47)) ∧ w = w' := by
  go_enter Tryd.func118, Tryd.ntmps118
  go_wp2
  rw [run_callFunc_extern Tryd.func128 (by kernel_rfl) (by kernel_rfl) (by kernel_rfl) (e := Extern.BytealgIndexByte.indexByte) (by kernel_rfl), Lib.run_indexByteString]
  simp only [Result.andThen]
  rw [Oper.upon_value]
  go_wp2
  go_ret
  exact ⟨rfl, rfl⟩

set_option maxHeartbeats 2000000 in
theorem indexLite_any (s : ByteArray) (w : World) :
    Calls Tryd.prog 108 #[.string s, .string ⟨#[47]⟩] w fun e w' => e = .returned (.int .i64 (Lib.indexByte s.data.toList 47)) ∧ w = w' := by
  go_enter Tryd.func108, Tryd.ntmps108
  go_wp2_with (go_at_call 118; refine (indexByteLite_any _ _).mono ?_; rintro e w' ⟨rfl, rfl⟩)
  all_goals
    go_ret
    refine ⟨?_, rfl⟩
    first
    | rfl
    | (have e : s.data.toList = [47] := by rw [← Lib.toList_data]; exact (beq_iff_eq.1 (by assumption)).symm
       rw [e]
       simp [Lib.indexByte])

theorem indexByte_bd (l : List UInt8) (c : UInt8) : -1 ≤ Lib.indexByte l c ∧ Lib.indexByte l c < l.length := by
  induction l with
  | nil => simp [Lib.indexByte]
  | cons x xs ih =>
    simp only [Lib.indexByte, List.length_cons]
    split <;> (try split) <;> omega

/-- Where the stroke is, if there is one. -/
def cutAt (s : ByteArray) : Int := Lib.indexByte s.data.toList 47
theorem cutAt_bd (s : ByteArray) : -1 ≤ cutAt s ∧ cutAt s < s.size := by
  have := indexByte_bd s.data.toList 47
  rw [Array.length_toList] at this
  exact this

set_option maxHeartbeats 2000000 in
theorem cutLite_any (s : ByteArray) (w : World) (hs : s.size ≤ 1000000) :
    Calls Tryd.prog 84 #[.string s, .string ⟨#[47]⟩] w fun e w' => ∃ n, w' = w.drewN n ∧ ((cutAt s < 0 ∧ e = .returned (.tuple #[.string s, .string ⟨#[]⟩, .bool false])) ∨
      (0 ≤ cutAt s ∧ e = .returned (.tuple #[.string (s.extract 0 (cutAt s).toNat), .string (s.extract ((cutAt s).toNat + 1) s.size), .bool true]))) := by
  have hb := cutAt_bd s
  obtain ⟨i, hi⟩ : ∃ i, i = cutAt s := ⟨_, rfl⟩
  have HI : Hid (Lib.indexByte s.data.toList 47 = i) := hid hi.symm
  rw [← hi] at hb ⊢
  clear hi
  obtain ⟨hb1, hb2⟩ := hb
  by_cases h0 : 0 ≤ i
  · obtain ⟨k, rfl⟩ : ∃ k : Nat, i = (k : Int) := ⟨i.toNat, by omega⟩
    have hk : k < s.size := by omega
    go_enter Tryd.func84, Tryd.ntmps84
    go_wp2_with fail
    refine (indexLite_any _ _).mono ?_
    rintro e w1 ⟨rfl, rfl⟩
    rw [HI.out]
    go_wp2_with fail
    go_quiet (fail)
    go_wp2_with fail
    refine bodyPost_ret (by simp [results, Tryd.results84, go_sem]; try rfl) rfl ?_
    exact ⟨nq, rfl, .inr ⟨by omega, rfl⟩⟩
  · have h1 : i = -1 := by omega
    subst h1
    go_enter Tryd.func84, Tryd.ntmps84
    go_wp2_with fail
    refine (indexLite_any _ _).mono ?_
    rintro e w1 ⟨rfl, rfl⟩
    rw [HI.out]
    go_wp2_with fail
    refine bodyPost_ret (by simp [results, Tryd.results84, go_sem]; try rfl) rfl ?_
    exact ⟨0, rfl, .inl ⟨by omega, rfl⟩⟩

set_option maxHeartbeats 2000000 in
theorem cut_any (s : ByteArray) (w : World) (hs : s.size ≤ 1000000) :
    Calls Tryd.prog 54 #[.string s, .string ⟨#[47]⟩] w fun e w' => Fwd w w' ∧ ((cutAt s < 0 ∧ e = .returned (.tuple #[.string s, .string ⟨#[]⟩, .bool false])) ∨
      (0 ≤ cutAt s ∧ e = .returned (.tuple #[.string (s.extract 0 (cutAt s).toNat), .string (s.extract ((cutAt s).toNat + 1) s.size), .bool true]))) := by
  go_enter Tryd.func54, Tryd.ntmps54
  go_wp2_with fail
  refine (cutLite_any _ _ hs).mono ?_
  rintro e w1 ⟨n, rfl, ⟨h1, rfl⟩ | ⟨h1, rfl⟩⟩
  · have H1 := hid h1
    clear h1
    go_wp2_with fail
    refine bodyPost_ret (by simp [results, Tryd.results54, go_sem]; try rfl) rfl ?_
    exact ⟨(Fwd.refl w).drewN n, .inl ⟨H1.out, rfl⟩⟩
  · have H1 := hid h1
    clear h1
    go_wp2_with fail
    refine bodyPost_ret (by simp [results, Tryd.results54, go_sem]; try rfl) rfl ?_
    exact ⟨(Fwd.refl w).drewN n, .inr ⟨H1.out, rfl⟩⟩

/-- Does a text begin with a minus sign? -/
def hasMinus (s : ByteArray) : Bool := decide (1 ≤ s.size) && ((s.extract 0 1).toList == [45])
set_option maxHeartbeats 2000000 in
theorem cutPrefix_any (s : ByteArray) (w : World) (hs : s.size ≤ 1000000) :
    Calls Tryd.prog 52 #[.string s, .string ⟨#[45]⟩] w fun e w' => w = w' ∧ ((hasMinus s = false ∧ e = .returned (.tuple #[.string s, .bool false])) ∨
      (hasMinus s = true ∧ e = .returned (.tuple #[.string (s.extract 1 s.size), .bool true]))) := by
  by_cases h1 : 1 ≤ s.size
  · have h1i : (1 : Int) ≤ (s.size : Int) := by omega
    cases h2 : ((s.extract 0 1).toList == [45])
    · have HM : Hid (hasMinus s = false) := hid (by simp [hasMinus, h2])
      go_enter Tryd.func52, Tryd.ntmps52
      go_wp2
      refine bodyPost_ret (by simp [results, Tryd.results52, go_sem]; try rfl) rfl ?_
      exact ⟨rfl, .inl ⟨HM.out, rfl⟩⟩
    · have HM : Hid (hasMinus s = true) := hid (by simp [hasMinus, h1, h2])
      go_enter Tryd.func52, Tryd.ntmps52
      go_wp2
      refine bodyPost_ret (by simp [results, Tryd.results52, go_sem]; try rfl) rfl ?_
      exact ⟨rfl, .inr ⟨HM.out, rfl⟩⟩
  · have h1i : ¬ (1 : Int) ≤ (s.size : Int) := by omega
    have HM : Hid (hasMinus s = false) := hid (by simp [hasMinus, h1])
    go_enter Tryd.func52, Tryd.ntmps52
    go_wp2
    refine bodyPost_ret (by simp [results, Tryd.results52, go_sem]; try rfl) rfl ?_
    exact ⟨rfl, .inl ⟨HM.out, rfl⟩⟩

end Go.Proofs.YtjkoiocemolcbaaDoor
