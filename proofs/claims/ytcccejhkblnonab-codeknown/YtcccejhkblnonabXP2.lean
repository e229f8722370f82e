/- The program's rational numbers: isNought, isOne, signed, over, Make, size, Of. -/
import Derived.Test.YtcccejhkblnonabXP1
import Derived.Test.YtcccejhkblnonabKI
import Derived.Test.YtcccejhkblnonabKH
namespace Go.Proofs.Ytcccejhkblnonab
open Go.RowKit
set_option linter.unusedVariables false

/-- A number stays, where a block that holds no limbs is written. -/
theorem Num.keepV {w w' : World} {v : Value} {n g : Nat} {T : TypeId} {cs : List Value} (h : Num w v n) (hb : BlkV w g T cs) (hcs : ∀ c ∈ cs, ∀ x, c ≠ .int .u32 x) (k : Only g w w') : Num w' v n := by
  refine ⟨h.1, ?_⟩
  rcases h.2 with e | ⟨b, off, cap, rfl, hc1, hc2, hc3, hc4⟩
  · exact .inl e
  · refine .inr ⟨b, off, cap, rfl, hc1, hc2, fun i hi => ?_, Nat.lt_of_lt_of_le hc4 k.size⟩
    have hc := hc3 i hi
    by_cases hbg : b = g
    · exfalso
      subst hbg
      unfold BlkV at hb
      simp only [World.cell?, hb] at hc
      have hm : ∃ c ∈ cs, c = .int .u32 (((lim n).getD i 0 : Nat) : Int) := by
        rw [List.getElem?_toArray] at hc
        exact ⟨_, List.mem_of_getElem? hc, rfl⟩
      obtain ⟨c, hm1, hm2⟩ := hm
      exact hcs c hm1 _ hm2
    · exact k.cell hc hbg
theorem RW.keepV {w w' : World} {v : Value} {s : Bool} {m d g : Nat} {T : TypeId} {cs : List Value} (h : RW w v s m d) (hb : BlkV w g T cs) (hcs : ∀ c ∈ cs, ∀ x, c ≠ .int .u32 x) (k : Only g w w') : RW w' v s m d := by
  obtain ⟨a, b, e, h3, h4⟩ := h
  exact ⟨a, b, e, h3.keepV hb hcs k, h4.keepV hb hcs k⟩
theorem RW.drew {w : World} {v : Value} {s : Bool} {m d : Nat} (h : RW w v s m d) : RW w.drew v s m d := h
theorem blen_one_iff (n : Nat) : (blen n == 1) = (n == 1) := by
  by_cases h0 : n = 0
  · subst h0; rfl
  · by_cases h1 : n = 1
    · subst h1; decide +kernel
    · have := blen_le_iff n 1
      have : ¬ blen n ≤ 1 := by rw [this]; omega
      rw [Bool.eq_iff_iff]; simp; omega
theorem blen_zero_iff (n : Nat) : (blen n == 0) = (n == 0) := by
  have := blen_le_iff n 0
  rw [Bool.eq_iff_iff]; simp; omega
theorem cast_beq (a b : Nat) : ((a : Int) == (b : Int)) = (a == b) := by rw [Bool.eq_iff_iff]; simp; omega

set_option maxHeartbeats 4000000 in
set_option maxRecDepth 20000 in
theorem isNought_any {w : World} {a : Value} {n : Nat} (ha : Num w a n) (hn : nl n ≤ 1000000) :
    Calls Try.prog 57 #[a] w fun e w' => e = .returned (.bool (n == 0)) ∧ Fwd w w' := by
  have e0 : ((blen n : Int) == 0) = (n == 0) := by rw [show (0 : Int) = ((0 : Nat) : Int) from rfl, cast_beq, blen_zero_iff]
  have E0 := hid e0
  clear e0
  go_enter Try.func57, Try.ntmps57
  go_wp2_with fail
  refine (bits_any ha (by omega)).mono ?_
  rintro e w1 ⟨rfl, hf⟩
  have h0 := blen_nl n
  go_wp2_with fail
  go_ret
  exact ⟨by rw [E0.out]; rfl, hf⟩

set_option maxHeartbeats 4000000 in
set_option maxRecDepth 20000 in
theorem isOne_any {w : World} {a : Value} {n : Nat} (ha : Num w a n) (hn : nl n ≤ 1000000) :
    Calls Try.prog 59 #[a] w fun e w' => e = .returned (.bool (n == 1)) ∧ Fwd w w' := by
  have e0 : ((blen n : Int) == 1) = (n == 1) := by rw [show (1 : Int) = ((1 : Nat) : Int) from rfl, cast_beq, blen_one_iff]
  have E0 := hid e0
  clear e0
  go_enter Try.func59, Try.ntmps59
  go_wp2_with fail
  refine (bits_any ha (by omega)).mono ?_
  rintro e w1 ⟨rfl, hf⟩
  have h0 := blen_nl n
  go_wp2_with fail
  go_ret
  exact ⟨by rw [E0.out]; rfl, hf⟩

end Go.Proofs.Ytcccejhkblnonab
