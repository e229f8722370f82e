/- What chapter 8's laws lean on: lists that came in; known; Row. -/
import Derived.Test.YtimlpehgafjkpaaXNT19
namespace Go.Proofs.Ytimlpehgafjkpaa
open Go.RowKit Go.Maps
set_option linter.unusedVariables false
set_option linter.unusedSimpArgs false

theorem isPow_zero : isPow 0 = false := by decide
theorem trA_nil (back : Bool) : trA back [] = ([], 3) := by
  unfold trA
  rw [show ([] : List Nat).length = 0 from rfl, isPow_zero]
  rfl
theorem cvA_nil_left (ys : List Nat) : cvA [] ys = ([], 3) := by unfold cvA; rw [if_pos (.inl rfl)]
theorem cvA_nil_right (xs : List Nat) : cvA xs [] = ([], 3) := by unfold cvA; rw [if_pos (.inr (.inl rfl))]

set_option maxHeartbeats 1000000 in
theorem Transform_none {w : World} (ao : Option Addr) (cap : Nat) (back : Bool) :
    Calls Try.prog 14 #[.slice ao 0 cap, .bool back] w fun e w' => e = .returned (.tuple #[.slice none 0 0, .int .i64 3]) ∧ Fwd w w' := by
  go_enter Try.func14, Try.ntmps14
  go_wp2_with fail
  refine (stepsOf_any _ back).mono ?_
  rintro e w1 ⟨b, rfl, hS, hF1, hb⟩
  have HS := hid hS
  have HF1 := hid hF1
  clear hS hF1
  have hno : Hid (∀ t, t < 11 → 0 ≠ 2 ^ t) := hid fun t ht e => by have := Nat.two_pow_pos t; omega
  go_wp2_with (at_lookup; refine law_look_no rfl (.tmp 16) (.tmp 17) rfl b back 0 rfl HS.out hno.out _ rfl rfl (by omega) ?_)
  intro c1 c2
  go_wp2_with fail
  go_returns
  exact ⟨rfl, HF1.out.alloc _⟩
theorem Transform8_none {w : World} (ao : Option Addr) (cap : Nat) (back : Bool) :
    Calls Try.prog 15 #[.slice ao 0 cap, .bool back] w fun e w' => e = .returned (.tuple #[.slice none 0 0, .int .i64 3]) ∧ Fwd w w' := by
  go_enter Try.func15, Try.ntmps15
  go_wp2_with fail
  go_returns
  exact ⟨rfl, Fwd.refl w⟩

theorem Arg.fwd8 {w w' : World} {v : Value} {xs : List Nat} (h : Arg w v xs) (k : Fwd w w') : Arg w' v xs := by
  rcases h with h | h
  · exact .inl (h.fwd k)
  · exact .inr h
theorem Transform_arg {w : World} {v : Value} {xs : List Nat} (back : Bool) (hv : Arg w v xs) :
    Calls Try.prog 14 #[v, .bool back] w fun e w' => ∃ u, e = .returned (.tuple #[u, .int .i64 (((trA back xs).2 : Nat) : Int)]) ∧ Rd w' u (trA back xs).1 ∧ Fwd w w' := by
  rcases hv with hv | ⟨rfl, x, cap, rfl, _⟩
  · exact Transform_any back hv
  · rw [trA_nil]
    refine (Transform_none (some x) cap back).mono ?_
    rintro e w1 ⟨rfl, hf⟩
    exact ⟨_, rfl, Rd.nil _, hf⟩
theorem Transform8_arg {w : World} {v : Value} {xs : List Nat} (back : Bool) (hv : Arg w v xs) :
    Calls Try.prog 15 #[v, .bool back] w fun e w' => ∃ u, e = .returned (.tuple #[u, .int .i64 (((trA back xs).2 : Nat) : Int)]) ∧ Rd w' u (trA back xs).1 ∧ Fwd w w' := by
  rcases hv with hv | ⟨rfl, x, cap, rfl, _⟩
  · exact Transform8_any back hv
  · rw [trA_nil]
    refine (Transform8_none (some x) cap back).mono ?_
    rintro e w1 ⟨rfl, hf⟩
    exact ⟨_, rfl, Rd.nil _, hf⟩

theorem Arg.len {w : World} {v : Value} {xs : List Nat} (h : Arg w v xs) : ∃ ao cap, v = .slice ao xs.length cap ∧ cap ≤ 9223372036854775807 ∧ xs.length ≤ 9223372036854775807 ∧ ∀ i, i < xs.length → ∃ b off, ao = some ⟨b, off, none⟩ ∧ w.cell? ⟨b, off + i, none⟩ = some (.int .u32 ((xs.getD i 0 : Nat) : Int)) := by
  rcases h with h | ⟨rfl, x, cap, rfl, h⟩
  · obtain ⟨ao, cap, e, h1, h2, _, h3⟩ := h.parts
    unfold maxLen at h2
    exact ⟨ao, cap, e, by omega, by omega, h3⟩
  · unfold maxLen at h
    exact ⟨some x, cap, rfl, by omega, by simp, fun i hi => by simp at hi⟩
theorem Arg.ok8 {w : World} {v : Value} {xs : List Nat} (h : Arg w v xs) : Ok xs := by
  rcases h with h | ⟨rfl, _⟩
  · exact h.ok
  · exact Ok.nil

set_option maxHeartbeats 1000000 in
theorem Conv_none {w : World} {ao bo : Option Addr} {ac bc la lb : Nat} (h : la = 0 ∨ lb = 0) (lx : la ≤ 1000000000) (ly : lb ≤ 1000000000) :
    Calls Try.prog 17 #[.slice ao la ac, .slice bo lb bc] w fun e w' => e = .returned (.tuple #[.slice none 0 0, .int .i64 3]) ∧ Fwd w w' := by
  by_cases h0 : la = 0
  · subst h0
    go_enter Try.func17, Try.ntmps17
    go_wp2_with fail
    go_returns
    exact ⟨rfl, Fwd.refl w⟩
  · obtain rfl : lb = 0 := by omega
    have i0 : ((la : Int) == 0) = false := beq_eq_false_iff_ne.2 (by omega)
    go_enter Try.func17, Try.ntmps17
    go_wp2_with fail
    go_returns
    exact ⟨rfl, Fwd.refl w⟩
set_option maxHeartbeats 1000000 in
theorem Conv8_none {w : World} {ao bo : Option Addr} {ac bc la lb : Nat} (h : la = 0 ∨ lb = 0) (lx : la ≤ 1000000000) (ly : lb ≤ 1000000000) :
    Calls Try.prog 18 #[.slice ao la ac, .slice bo lb bc] w fun e w' => e = .returned (.tuple #[.slice none 0 0, .int .i64 3]) ∧ Fwd w w' := by
  by_cases h0 : la = 0
  · subst h0
    go_enter Try.func18, Try.ntmps18
    go_wp2_with fail
    go_returns
    exact ⟨rfl, Fwd.refl w⟩
  · obtain rfl : lb = 0 := by omega
    have i0 : ((la : Int) == 0) = false := beq_eq_false_iff_ne.2 (by omega)
    go_enter Try.func18, Try.ntmps18
    go_wp2_with fail
    go_returns
    exact ⟨rfl, Fwd.refl w⟩
theorem Conv_arg {w : World} {u v : Value} {xs ys : List Nat} (hu : Arg w u xs) (hv : Arg w v ys) (lx : xs.length ≤ 1000000000) (ly : ys.length ≤ 1000000000) :
    Calls Try.prog 17 #[u, v] w fun e w' => ∃ z, e = .returned (.tuple #[z, .int .i64 (((cvA xs ys).2 : Nat) : Int)]) ∧ Rd w' z (cvA xs ys).1 ∧ Fwd w w' := by
  obtain ⟨ao, ac, ea, _⟩ := hu.len
  obtain ⟨bo, bc, eb, _⟩ := hv.len
  rcases hu with hu | ⟨rfl, _⟩
  · rcases hv with hv | ⟨rfl, _⟩
    · exact Conv_any hu hv lx ly
    · rw [cvA_nil_right, ea, eb]
      refine (Conv_none (.inr rfl) lx ly).mono ?_
      rintro e w1 ⟨rfl, hf⟩
      exact ⟨_, rfl, Rd.nil _, hf⟩
  · rw [cvA_nil_left, ea, eb]
    refine (Conv_none (.inl rfl) lx ly).mono ?_
    rintro e w1 ⟨rfl, hf⟩
    exact ⟨_, rfl, Rd.nil _, hf⟩
theorem Conv8_arg {w : World} {u v : Value} {xs ys : List Nat} (hu : Arg w u xs) (hv : Arg w v ys) (lx : xs.length ≤ 1000000000) (ly : ys.length ≤ 1000000000) :
    Calls Try.prog 18 #[u, v] w fun e w' => ∃ z, e = .returned (.tuple #[z, .int .i64 (((cvA xs ys).2 : Nat) : Int)]) ∧ Rd w' z (cvA xs ys).1 ∧ Fwd w w' := by
  obtain ⟨ao, ac, ea, _⟩ := hu.len
  obtain ⟨bo, bc, eb, _⟩ := hv.len
  rcases hu with hu | ⟨rfl, _⟩
  · rcases hv with hv | ⟨rfl, _⟩
    · exact Conv8_any hu hv lx ly
    · rw [cvA_nil_right, ea, eb]
      refine (Conv8_none (.inr rfl) lx ly).mono ?_
      rintro e w1 ⟨rfl, hf⟩
      exact ⟨_, rfl, Rd.nil _, hf⟩
  · rw [cvA_nil_left, ea, eb]
    refine (Conv8_none (.inl rfl) lx ly).mono ?_
    rintro e w1 ⟨rfl, hf⟩
    exact ⟨_, rfl, Rd.nil _, hf⟩

theorem trA_good {back : Bool} {xs : List Nat} (hP : isPow xs.length = true) (hR : allR xs = true) : trA back xs = (trF back xs, 0) := by unfold trA; rw [if_pos hP, if_pos hR]
theorem tr_nine : trA false [9] = ([9], 0) := by
  rw [trA_good (by decide) (by decide)]
  have h : trF false [9] = [9] := by
    unfold trF dft
    show [vF ((0 + fF [9] 0 * rtF false 1 ^ (0 * 0)) * shF false 1)] = [9]
    rw [shF_false, Nat.zero_mul, rpow_zero, show fF [9] 0 = cF 9 from rfl]
    rw [show (0 + cF 9 * 1) * 1 = cF 9 by grind, vF_c_lt (by omega)]
  rw [h]
theorem two_ten : vF (powF (cF 2) 10) = 1024 := by
  unfold powF
  rw [if_neg (by omega), show (10 : Int).natAbs = 10 from rfl, ← pmF_c 4 2 10 (by decide)]
  decide +kernel

set_option maxHeartbeats 1000000 in
theorem known8_any (w : World) : Calls Try.prog 9 #[] w fun e w' => e = .returned (.bool true) ∧ Fwd w w' := by
  have hrd : Rd (w.alloc (.cells #[.int .u32 9] 22)) (.slice (some ⟨w.heap.size, 0, none⟩) 1 1) [9] := by
    have := (Blk.lit w [9] (Ok.cons (by omega) Ok.nil) #[.int .u32 9] rfl).rdAll 1 (by simp) (by unfold maxLen; omega)
    exact this
  have htr := hid (Transform_any false hrd)
  rw [tr_nine] at htr
  have hpw : Hid (∀ w', Calls Try.prog 10 #[.int .u32 2, .int .i64 10] w' fun e w'' => e = .returned (.int .u32 1024) ∧ w'' = w') := hid fun w' => by
    refine (Pow_any w' 2 10 (by omega) (by omega) (by omega)).mono ?_
    rintro e w'' ⟨rfl, h⟩
    rw [two_ten]
    exact ⟨rfl, h⟩
  have hF0 := hid ((Fwd.refl w).alloc (.cells #[.int .u32 9] 22))
  clear hrd
  go_enter Try.func9, Try.ntmps9
  go_wp2_with fail
  refine htr.out.mono ?_
  rintro e w1 ⟨u, rfl, hu, hf⟩
  obtain ⟨ao, cap, rfl, _, _, _, hc⟩ := hu.parts
  obtain ⟨b, off, rfl, hcell⟩ := hc 0 (by simp)
  have hcell : w1.cell? ⟨b, off, none⟩ = some (.int .u32 9) := hcell
  have HF := hid (hF0.out.trans hf)
  clear hu hf hc htr
  show _
  go_wp2_with fail
  refine (hpw.out _).mono ?_
  rintro e w2 ⟨rfl, rfl⟩
  go_wp2_with fail
  go_ret
  exact ⟨rfl, HF.out⟩

/-- The laws' rows. -/
def rowL (xs : List Nat) (n : Nat) : List Nat := (List.range n).map fun i => if i < xs.length then xs.getD i 0 % 998244353 else 7 * i + 1
theorem rowL_len (xs : List Nat) (n : Nat) : (rowL xs n).length = n := by simp [rowL]
theorem rowL_take (xs : List Nat) (n : Nat) : rowL xs (n + 1) = rowL xs n ++ [if n < xs.length then xs.getD n 0 % 998244353 else 7 * n + 1] := by
  unfold rowL
  rw [List.range_succ, List.map_append]
  rfl
theorem rowL_rem (xs : List Nat) (n : Nat) (hn : n ≤ 10000) : allR (rowL xs n) = true := by
  unfold allR
  rw [List.all_eq_true]
  intro x hx
  unfold rowL at hx
  obtain ⟨i, hi, rfl⟩ := List.mem_map.1 hx
  have := List.mem_range.1 hi
  refine decide_eq_true ?_
  split
  · exact Nat.mod_lt _ (by omega)
  · omega

set_option maxHeartbeats 2000000 in
theorem Row_any {w : World} {v : Value} {xs : List Nat} (n : Nat) (hv : Arg w v xs) (hn : n ≤ 10000) :
    Calls Try.prog 12 #[v, .int .i64 n] w fun e w' => ∃ u, e = .returned u ∧ Rd w' u (rowL xs n) ∧ Fwd w w' := by
  have hok := hid hv.ok8
  obtain ⟨ao, cap, rfl, hc1, hc2, hc⟩ := hv.len
  have HC := hid hc
  clear hv hc
  go_enter Try.func12, Try.ntmps12
  go_wp2_with fail
  go_loopw [5, 6] (fun ov iv wr => ∃ k : Nat, k ≤ n ∧ iv = .int .i64 k ∧ Own wr w.heap.size ov (rowL xs k) ∧ Fwd w wr) (fun _ iv _ => n - (intOf iv).toNat)
  case atStart => exact ⟨0, by omega, rfl, Own.nil _ _, Fwd.refl w⟩
  case round =>
    obtain ⟨k, hk, rfl, hO, hF⟩ := hrel
    obtain ⟨oo, oc, rfl, _, _, _⟩ := hO.parts
    have HO := hid hO
    have HF := hid hF
    clear hO hF
    have hlk := rowL_len xs k
    rw [hlk] at HO ⊢
    by_cases hkn : k < n
    · have htk := hid (rowL_take xs k)
      by_cases hkl : k < xs.length
      · obtain ⟨b, off, rfl, hcell⟩ := HC.out k hkl
        have hcell := HF.out.cell hcell
        have hxl := hok.out.getD k
        rw [if_pos hkl] at htk
        obtain ⟨x, hx⟩ : ∃ x, x = xs.getD k 0 := ⟨_, rfl⟩
        rw [← hx] at hcell hxl htk
        have hxm : x % 998244353 < 998244353 := Nat.mod_lt _ (by omega)
        obtain ⟨y, hy⟩ : ∃ y, y = x % 998244353 := ⟨_, rfl⟩
        have hyi : (x : Int) % 998244353 = (y : Int) := by omega
        rw [← hy] at hxm htk
        clear hx hy
        obtain ⟨ha, hb, hc⟩ := HO.out.more HF.out.size y
        have hlz : Hid ((rowL xs k).length ≤ 1000000000) := hid (by rw [hlk]; omega)
        have HF2 := hid (HF.out.alloc (.cells #[.int .u32 (y : Int)] 22))
        go_wp2_with (at_builtin; refine law_append1 rfl (.tmp 26) (.tmp 28) rfl w.heap.size _ (rowL xs k) rfl ha.out _ y 1 rfl (by omega) hb.out hlz.out hc.out ?_)
        intro v' w6 hO6 hB6
        have HO6 := hid hO6
        have HF6 : Hid (Fwd w w6) := hid (Below.trans HF2.out hB6)
        clear hO6 hB6
        go_wp2_with fail
        go_roundw
        case rel => exact ⟨k + 1, by omega, by go_num, by rw [htk.out]; exact HO6.out, HF6.out⟩
        case measure => simp [intOf]; omega
      · rw [if_neg hkl] at htk
        obtain ⟨y, hy⟩ : ∃ y, y = 7 * k + 1 := ⟨_, rfl⟩
        have hyi : 7 * (k : Int) + 1 = (y : Int) := by omega
        have hyl : y < 4294967296 := by omega
        rw [← hy] at htk
        clear hy
        obtain ⟨ha, hb, hc⟩ := HO.out.more HF.out.size y
        have hlz : Hid ((rowL xs k).length ≤ 1000000000) := hid (by rw [hlk]; omega)
        have HF2 := hid (HF.out.alloc (.cells #[.int .u32 (y : Int)] 22))
        go_wp2_with (at_builtin; refine law_append1 rfl (.tmp 26) (.tmp 28) rfl w.heap.size _ (rowL xs k) rfl ha.out _ y 1 rfl (by omega) hb.out hlz.out hc.out ?_)
        intro v' w6 hO6 hB6
        have HO6 := hid hO6
        have HF6 : Hid (Fwd w w6) := hid (Below.trans HF2.out hB6)
        clear hO6 hB6
        go_wp2_with fail
        go_roundw
        case rel => exact ⟨k + 1, by omega, by go_num, by rw [htk.out]; exact HO6.out, HF6.out⟩
        case measure => simp [intOf]; omega
    · obtain rfl : k = n := by omega
      go_wp2_with fail
      go_ret
      refine ⟨_, rfl, ?_, HF.out⟩
      have := HO.out.rd
      exact this
end Go.Proofs.Ytimlpehgafjkpaa
