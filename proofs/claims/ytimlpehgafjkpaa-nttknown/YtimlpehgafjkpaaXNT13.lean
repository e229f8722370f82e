/- Contract: the program's Transform. -/
import Derived.Test.YtimlpehgafjkpaaXNT12
namespace Go.Proofs.Ytimlpehgafjkpaa
open Go.RowKit Go.Maps
set_option linter.unusedVariables false
set_option linter.unusedSimpArgs false

/-- The transform of a list. -/
def trF (back : Bool) (xs : List Nat) : List Nat := (List.range xs.length).map fun k => vF (dft (fF xs) (rtF back xs.length) xs.length k * shF back xs.length)
theorem trF_len (back : Bool) (xs : List Nat) : (trF back xs).length = xs.length := by simp [trF]
theorem trF_getD (back : Bool) (xs : List Nat) (k : Nat) (hk : k < xs.length) : (trF back xs).getD k 0 = vF (dft (fF xs) (rtF back xs.length) xs.length k * shF back xs.length) := by
  simp [trF, hk]
theorem trF_ok (back : Bool) (xs : List Nat) : Ok (trF back xs) := by
  intro x hx
  simp [trF] at hx
  obtain ⟨a, _, rfl⟩ := hx
  have := vF_lt (dft (fF xs) (rtF back xs.length) xs.length a * shF back xs.length)
  omega
/-- One of the lengths that may be. -/
def isPow (n : Nat) : Bool := (List.range 11).any fun t => decide (n = 2 ^ t)
theorem isPow_iff {n : Nat} : isPow n = true ↔ ∃ t, t < 11 ∧ n = 2 ^ t := by
  unfold isPow
  rw [List.any_eq_true]
  constructor
  · rintro ⟨t, h1, h2⟩; exact ⟨t, List.mem_range.1 h1, of_decide_eq_true h2⟩
  · rintro ⟨t, h1, h2⟩; exact ⟨t, List.mem_range.2 h1, decide_eq_true h2⟩
/-- The answer of Transform: a list, a number. -/
def trA (back : Bool) (xs : List Nat) : List Nat × Nat := if isPow xs.length then (if allR xs then (trF back xs, 0) else ([], 1)) else ([], 3)

theorem list_ext {L M : List Nat} (hl : L.length = M.length) (h : ∀ i, i < L.length → L.getD i 0 = M.getD i 0) : L = M := by
  apply List.ext_getElem hl
  intro i h1 h2
  have := h i h1
  simpa [h1, h2] using this

theorem law_look_yes {w : World} {ops : Array Oper} {rest : List Oper} {o : Oper} {a : Act} {Q : Exit → Act → World → Prop} (hg : o.guard = none) (m x : Operand)
    (hop : o.op = Op.lookup 50 m x true) (b : Nat) (back : Bool) (n : Nat) (hm : a.eval m = .map (some b)) (hS : Steps w b back 11) (hn : ∃ t, t < 11 ∧ n = 2 ^ t)
    (v : Int) (hx : a.eval x = .int .i64 v) (hv : v = (n : Int))
    (h : ∀ c1 c2 : Int, wpList Try.prog ops Q rest (a.put o.dst (.tuple #[.agg #[.int .u32 c1, .int .u32 c2], .bool true])) w) : wpList Try.prog ops Q (o :: rest) a w := by
  obtain ⟨t, ht, e⟩ := hn
  have hp : 2 ^ t ≤ 2 ^ 10 := Nat.pow_le_pow_right (by omega) (by omega)
  refine law_look_ok hg m x hop b back 11 n hm hS v hx hv (by omega) fun c1 c2 q h1 h2 => ?_
  cases q with
  | true => exact h c1 c2
  | false => exact absurd e (h2 rfl t ht)
theorem law_look_no {w : World} {ops : Array Oper} {rest : List Oper} {o : Oper} {a : Act} {Q : Exit → Act → World → Prop} (hg : o.guard = none) (m x : Operand)
    (hop : o.op = Op.lookup 50 m x true) (b : Nat) (back : Bool) (n : Nat) (hm : a.eval m = .map (some b)) (hS : Steps w b back 11) (hn : ∀ t, t < 11 → n ≠ 2 ^ t)
    (v : Int) (hx : a.eval x = .int .i64 v) (hv : v = (n : Int)) (hl : n ≤ 9223372036854775807)
    (h : ∀ c1 c2 : Int, wpList Try.prog ops Q rest (a.put o.dst (.tuple #[.agg #[.int .u32 c1, .int .u32 c2], .bool false])) w) : wpList Try.prog ops Q (o :: rest) a w := by
  refine law_look_ok hg m x hop b back 11 n hm hS v hx hv hl fun c1 c2 q h1 h2 => ?_
  cases q with
  | false => exact h c1 c2
  | true =>
    obtain ⟨t, ht, e⟩ := h1 rfl
    exact absurd e (hn t ht)

set_option maxHeartbeats 400000 in
set_option maxRecDepth 20000 in
theorem Transform_any {w : World} {v : Value} {xs : List Nat} (back : Bool) (hv : Rd w v xs) :
    Calls Try.prog 14 #[v, .bool back] w fun e w' => ∃ u, e = .returned (.tuple #[u, .int .i64 (((trA back xs).2 : Nat) : Int)]) ∧ Rd w' u (trA back xs).1 ∧ Fwd w w' := by
  obtain ⟨ao, cap, rfl, hcl, hcm, _, _⟩ := hv.parts
  have HV := hid hv
  clear hv
  unfold maxLen at hcm
  go_enter Try.func14, Try.ntmps14
  go_wp2_with fail
  refine (stepsOf_any _ back).mono ?_
  rintro e w1 ⟨b, rfl, hS, hF1, hb⟩
  have HS := hid hS
  have HF1 := hid hF1
  clear hS hF1
  by_cases hP : isPow xs.length = true
  · have hex := hid (isPow_iff.1 hP)
    go_wp2_with (at_lookup; refine law_look_yes rfl (.tmp 16) (.tmp 17) rfl b back xs.length rfl HS.out hex.out _ rfl rfl ?_)
    intro c1 c2
    obtain ⟨t, ht, hxt⟩ := hex.out
    have hp : 2 ^ t ≤ 2 ^ 10 := Nat.pow_le_pow_right (by omega) (by omega)
    have hle : xs.length ≤ 1024 := by omega
    have HT := hid hxt
    clear hxt hp
    go_wp2_with fail
    have hF2 := HF1.out.alloc (.cells #[.int .u32 c1, .int .u32 c2] 53)
    have hS2 := HS.out.fwd ((Fwd.refl w1).alloc (.cells #[.int .u32 c1, .int .u32 c2] 53))
    generalize w1.alloc (.cells #[.int .u32 c1, .int .u32 c2] 53) = w2 at *
    have hv2 := HV.out.fwd hF2
    refine (areRem_any hv2 (by omega)).mono ?_
    rintro e w3 ⟨rfl, rfl⟩
    have HF2 := hid hF2
    have HS2 := hid hS2
    have HV2 := hid hv2
    clear hF2 hS2 hv2 HF1 HS
    by_cases hR : allR xs = true
    · rw [hR]
      go_wp2_with fail
      refine (pointsOf_any HV2.out hle).mono ?_
      rintro e w4 ⟨rfl, hf4⟩
      have HF4 := hid (HF2.out.trans hf4)
      have HS4 := hid (HS2.out.fwd hf4)
      clear hf4
      dsimp only
      rename_i hK
      refine hK _ _ ?_
      refine law_allocP rfl rfl ?_
      intro w5 hA5 hF5
      refine law_storeP rfl _ _ rfl _ _ _ rfl rfl hA5 (padP_len hle) (HV2.out.ok.append (Ok.replicate _)) ?_
      intro w6 hA6 hO6
      have hne : b ≠ w4.heap.size := by have := HS4.out.lt; omega
      have HF6 := hid ((HF4.out.trans hF5).wrote hO6 (HF4.out.size))
      have HS6 := hid ((HS4.out.fwd hF5).only hO6 hne)
      have HA6 := hid hA6
      clear hA5 hF5 hA6 hO6
      have hgs : w.heap.size ≤ w4.heap.size := HF4.out.size
      generalize w4.heap.size = g at *
      have hpl : ∀ i, i < 2 ^ t → (padP xs).getD i 0 < 998244353 := fun i _ => by rw [padP_getD]; exact allR_get hR i
      have htr := hid (transform_any back t (by omega) HA6.out HS6.out hne hpl)
      rw [← HT.out] at htr
      clear hpl
      go_wp2_with fail
      refine htr.out.mono ?_
      rintro e w7 ⟨rfl, M, hA7, hO7, hM⟩
      have hfp : fF (padP xs) = fF xs := funext fun i => by unfold fF; rw [padP_getD]
      rw [hfp] at hM
      have hML : M.take xs.length = trF back xs := by
        refine list_ext (by rw [trF_len, List.length_take, hA7.2.1]; omega) fun i hi => ?_
        rw [List.length_take, hA7.2.1] at hi
        have hi2 : i < xs.length := by omega
        rw [trF_getD _ _ _ hi2, List.getD_eq_getElem?_getD, List.getElem?_take, if_pos hi2, ← List.getD_eq_getElem?_getD, hM i hi2]
      have hls := hid (list_any xs.length hA7 hle)
      rw [hML] at hls
      have HF7 := hid (HF6.out.wrote hO7 hgs)
      clear hA7 hO7 hM hML hfp htr
      go_wp2_with fail
      refine hls.out.mono ?_
      rintro e w8 ⟨u, rfl, hu, hf8⟩
      have HU := hid hu
      have HF8 := hid (HF7.out.trans hf8)
      clear hu hf8 hls
      go_wp2_with fail
      go_returns
      have e : trA back xs = (trF back xs, 0) := by unfold trA; rw [if_pos hP, if_pos hR]
      rw [e]
      exact ⟨_, rfl, HU.out, HF8.out⟩
    · have hR' : allR xs = false := by simpa using hR
      rw [hR']
      go_wp2_with fail
      go_returns
      have e : trA back xs = ([], 1) := by unfold trA; rw [if_pos hP, if_neg hR]
      rw [e]
      exact ⟨_, rfl, Rd.nil _, HF2.out⟩
  · have hno : Hid (∀ t, t < 11 → xs.length ≠ 2 ^ t) := hid fun t ht e => hP (isPow_iff.2 ⟨t, ht, e⟩)
    go_wp2_with (at_lookup; refine law_look_no rfl (.tmp 16) (.tmp 17) rfl b back xs.length rfl HS.out hno.out _ rfl rfl (by omega) ?_)
    intro c1 c2
    go_wp2_with fail
    go_returns
    have e : trA back xs = ([], 3) := by unfold trA; rw [if_neg hP]
    rw [e]
    refine ⟨_, rfl, Rd.nil _, ?_⟩
    exact HF1.out.alloc _
end Go.Proofs.Ytimlpehgafjkpaa
