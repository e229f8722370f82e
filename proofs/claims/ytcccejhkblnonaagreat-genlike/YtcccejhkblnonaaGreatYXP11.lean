/- Rational numbers: Text, both ways of telling it. -/
/- The law's own helpers, chapter 2: known, within, Make. -/
import Derived.Test.YtcccejhkblnonaaGreatKL
import Derived.Test.YtcccejhkblnonaaGreatKI
import Derived.Test.YtcccejhkblnonaaGreatKF
import Derived.Test.YtcccejhkblnonaaGreatKD
import Derived.Deep.DeepCutAuto
namespace Go.Proofs.YtcccejhkblnonaaGreat
open Go.RowKit
set_option linter.unusedVariables false

/-- A number's text. -/
def textS (s : Bool) (m : Nat) : ByteArray := if s then ⟨#[45]⟩ ++ textOf m else textOf m
def textR (s : Bool) (m d : Nat) : ByteArray := if d = 1 then textS s m else textS s m ++ ⟨#[47]⟩ ++ textOf d
theorem size_textOf (n : Nat) (h : nl n ≤ 100000) : (textOf n).size ≤ 1000001 := by
  rw [show (textOf n).size = (asc (dec n)).length from str_size rfl, len_asc]
  have := len_dec n
  omega
theorem size_dash (b : ByteArray) : (⟨#[45]⟩ ++ b : ByteArray).size = 1 + b.size := by rw [ByteArray.size_append]; rfl
theorem size_slash (b : ByteArray) : (b ++ ⟨#[47]⟩ : ByteArray).size = b.size + 1 := by rw [ByteArray.size_append]; rfl
theorem size_textR (s : Bool) (m d : Nat) (h1 : nl m ≤ 100000) (h2 : nl d ≤ 100000) : (textR s m d).size ≤ 2000004 := by
  have z1 := size_textOf m h1
  have z2 := size_textOf d h2
  have z3 : (textS s m).size ≤ 1000002 := by
    unfold textS
    cases s
    · rw [if_neg (by simp)]; omega
    · rw [if_pos rfl, size_dash]; omega
  unfold textR
  split
  · omega
  · rw [ByteArray.size_append, size_slash]; omega

end Go.Proofs.YtcccejhkblnonaaGreat

namespace Go.Proofs.YtcccejhkblnonaaGreat
open Go.RowKit
set_option linter.unusedVariables false

theorem textR_known : textR (negQ (mkQ true 6 4)) (mkQ true 6 4).num.natAbs (mkQ true 6 4).den = ⟨#[45, 51, 47, 50]⟩ := by
  rw [mkQ_sign (by decide), mkQ_abs (by decide), mkQ_den (by decide)]
  decide +kernel

/-- What the law makes of a raw number. -/
def rawQ (s : Bool) (xs ys : List Nat) : Rat := mkQ s (val (xs.take 3)) (if val (ys.take 3) = 0 then 1 + nl (val (xs.take 3)) else val (ys.take 3))
theorem nr_rawQ (s : Bool) {xs ys : List Nat} (h1 : Ok xs) (h2 : Ok ys) : nr (rawQ s xs ys) ≤ 3 := by
  have b1 := nl_take h1 3
  have b2 := nl_take h2 3
  unfold rawQ
  refine Nat.le_trans (nr_mkQ _ _ _ (by split <;> omega)) ?_
  split
  · have := nl_one (show 1 + nl (val (xs.take 3)) < 4294967296 by omega)
    omega
  · omega
/-- A raw number of the arguments. -/
def RawA (w : World) (v : Value) (s : Bool) (xs ys : List Nat) : Prop := ∃ vN vD, v = .agg #[.bool s, vN, vD] ∧ Rd w vN xs ∧ Rd w vD ys
theorem RawA.fwd {w w' : World} {v : Value} {s : Bool} {xs ys : List Nat} (h : RawA w v s xs ys) (k : Fwd w w') : RawA w' v s xs ys := by
  obtain ⟨vN, vD, e, h1, h2⟩ := h
  exact ⟨vN, vD, e, h1.fwd k, h2.fwd k⟩
theorem RawA.ok {w : World} {v : Value} {s : Bool} {xs ys : List Nat} (h : RawA w v s xs ys) : Ok xs ∧ Ok ys := by
  obtain ⟨vN, vD, e, h1, h2⟩ := h
  exact ⟨h1.ok, h2.ok⟩
theorem Rd.drew {w : World} {v : Value} {xs : List Nat} (h : Rd w v xs) : Rd w.drew v xs := h
theorem Rd.keepV {w w' : World} {v : Value} {xs : List Nat} {g : Nat} {T : TypeId} {cs : List Value} (h : Rd w v xs) (hb : BlkV w g T cs) (hcs : ∀ c ∈ cs, ∀ x, c ≠ .int .u32 x) (k : Only g w w') : Rd w' v xs := by
  refine ⟨h.1, ?_⟩
  rcases h.2 with e | ⟨b, off, cap, rfl, hc1, hc2, hc3, hc4⟩
  · exact .inl e
  · refine .inr ⟨b, off, cap, rfl, hc1, hc2, fun i hi => ?_, Nat.lt_of_lt_of_le hc4 k.size⟩
    have hc := hc3 i hi
    by_cases hbg : b = g
    · exfalso
      subst hbg
      unfold BlkV at hb
      simp only [World.cell?, hb] at hc
      have hm : ∃ c ∈ cs, c = .int .u32 ((xs.getD i 0 : Nat) : Int) := by
        rw [List.getElem?_toArray] at hc
        exact ⟨_, List.mem_of_getElem? hc, rfl⟩
      obtain ⟨c, hm1, hm2⟩ := hm
      exact hcs c hm1 _ hm2
    · exact k.cell hc hbg

theorem lim_small {x : Nat} (h0 : x ≠ 0) (h : x < 4294967296) : [x] = lim x := by
  rw [lim_pos h0, Nat.mod_eq_of_lt h, Nat.div_eq_of_lt h, lim_zero]

end Go.Proofs.YtcccejhkblnonaaGreat
