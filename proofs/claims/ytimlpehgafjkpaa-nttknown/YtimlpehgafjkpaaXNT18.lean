/- Contracts: Conv, the program's. -/
import Derived.Test.YtimlpehgafjkpaaXNT17
namespace Go.Proofs.Ytimlpehgafjkpaa
open Go.RowKit Go.Maps
set_option linter.unusedVariables false
set_option linter.unusedSimpArgs false

/-- The answer of Conv. -/
def cvA (xs ys : List Nat) : List Nat × Nat := if xs.length = 0 ∨ ys.length = 0 ∨ 1025 < xs.length + ys.length then ([], 3) else if allR xs && allR ys then (cvL xs ys, 0) else ([], 1)

theorem Rd.len {w : World} {v : Value} {xs : List Nat} (h : Rd w v xs) : ∃ ao cap, v = .slice ao xs.length cap ∧ xs.length ≤ cap ∧ cap ≤ 9223372036854775807 := by
  obtain ⟨ao, cap, e, h1, h2, _⟩ := h.parts
  exact ⟨ao, cap, e, h1, by unfold maxLen at h2; omega⟩

set_option maxHeartbeats 1000000 in
theorem Conv_long {w : World} {u v : Value} {xs ys : List Nat} (hu : Rd w u xs) (hv : Rd w v ys) (lx : xs.length ≤ 1000000000) (ly : ys.length ≤ 1000000000) (h : xs.length = 0 ∨ ys.length = 0 ∨ 1025 < xs.length + ys.length) :
    Calls Try.prog 17 #[u, v] w fun e w' => e = .returned (.tuple #[.slice none 0 0, .int .i64 3]) ∧ Fwd w w' := by
  obtain ⟨ao, ac, rfl, a1, a2⟩ := hu.len
  obtain ⟨bo, bc, rfl, b1, b2⟩ := hv.len
  clear hu hv
  generalize xs.length = la at *
  generalize ys.length = lb at *
  by_cases h0 : la = 0
  · subst h0
    go_enter Try.func17, Try.ntmps17
    go_wp2_with fail
    go_returns
    exact ⟨rfl, Fwd.refl w⟩
  · have i0 : ((la : Int) == 0) = false := beq_eq_false_iff_ne.2 (by omega)
    by_cases h1 : lb = 0
    · subst h1
      go_enter Try.func17, Try.ntmps17
      go_wp2_with fail
      go_returns
      exact ⟨rfl, Fwd.refl w⟩
    · have i1 : ((lb : Int) == 0) = false := beq_eq_false_iff_ne.2 (by omega)
      have i2 : decide (1024 < (la : Int) + lb - 1) = true := decide_eq_true (by omega)
      go_enter Try.func17, Try.ntmps17
      go_wp2_with fail
      go_returns
      exact ⟨rfl, Fwd.refl w⟩

set_option maxHeartbeats 4000000 in
set_option maxRecDepth 20000 in
theorem Conv_short {w : World} {u v : Value} {xs ys : List Nat} (hu : Rd w u xs) (hv : Rd w v ys) (hx0 : 0 < xs.length) (hy0 : 0 < ys.length) (hl : xs.length + ys.length ≤ 1025) :
    Calls Try.prog 17 #[u, v] w fun e w' => ∃ z, e = .returned (.tuple #[z, .int .i64 (((if allR xs && allR ys then 0 else 1 : Nat) : Nat) : Int)]) ∧ Rd w' z (if allR xs && allR ys then cvL xs ys else []) ∧ Fwd w w' := by
  obtain ⟨ao, ac, rfl, a1, a2⟩ := hu.len
  obtain ⟨bo, bc, rfl, b1, b2⟩ := hv.len
  have HU := hid hu
  have HV := hid hv
  have hax := hid (areRem_any hu (by omega))
  have hay := hid (areRem_any hv (by omega))
  clear hu hv
  obtain ⟨la, hla⟩ : ∃ la, la = xs.length := ⟨_, rfl⟩
  obtain ⟨lb, hlb⟩ : ∃ lb, lb = ys.length := ⟨_, rfl⟩
  rw [← hla] at hx0 hl a1 hax HU ⊢
  rw [← hlb] at hy0 hl b1 hay HV ⊢
  have HLA := hid hla
  have HLB := hid hlb
  clear hla hlb
  have i0 : ((la : Int) == 0) = false := beq_eq_false_iff_ne.2 (by omega)
  have i1 : ((lb : Int) == 0) = false := beq_eq_false_iff_ne.2 (by omega)
  obtain ⟨n, hn⟩ : ∃ n, n = la + lb - 1 := ⟨_, rfl⟩
  have hni : (la : Int) + lb - 1 = (n : Int) := by omega
  have i2 : decide (1024 < (n : Int)) = false := decide_eq_false (by omega)
  have n0 : 0 < n := by omega
  have n1 : n ≤ 1024 := by omega
  have HN := hid hn
  clear hn
  by_cases hR : allR xs = true
  · rw [hR] at hax
    by_cases hS : allR ys = true
    · rw [hS] at hay
      rw [if_pos (by rw [hR, hS]; rfl), if_pos (by rw [hR, hS]; rfl)]
      go_enter Try.func17, Try.ntmps17
      go_wp2_with fail
      refine hax.out.mono ?_
      rintro e w1 ⟨rfl, hww⟩
      rw [hww]
      clear hww w1
      go_wp2_with fail
      refine hay.out.mono ?_
      rintro e w1 ⟨rfl, hww⟩
      rw [hww]
      clear hww w1
      go_wp2_with fail
      refine (pointsOf_any HU.out (by rw [← HLA.out]; omega)).mono ?_
      rintro e w1 ⟨rfl, hf1⟩
      have HF1 := hid hf1
      have HV1 := hid (HV.out.fwd hf1)
      clear hf1
      go_wp2_with fail
      refine (pointsOf_any HV1.out (by rw [← HLB.out]; omega)).mono ?_
      rintro e w2 ⟨rfl, hf2⟩
      have HF2 := hid (HF1.out.trans hf2)
      clear hf2
      go_wp2_with fail
      refine (pointsFor_any _ n n0 n1).mono ?_
      rintro e w3 ⟨rfl, hww⟩
      rw [hww]
      clear hww w3
      have hbl : blen (n - 1) ≤ 10 := (blen_le_iff _ 10).2 (by omega)
      have hbn : n - 1 < 2 ^ blen (n - 1) := (blen_le_iff (n - 1) (blen (n - 1))).1 (Nat.le_refl _)
      obtain ⟨m, hm⟩ : ∃ m, m = blen (n - 1) := ⟨_, rfl⟩
      rw [← hm] at hbl hbn ⊢
      clear hm
      have hpr := hid (product_any (w := w2) (A := padP xs) (B := padP ys) m hbl (padP_len (by rw [← HLA.out]; omega)) (padP_len (by rw [← HLB.out]; omega)) (HU.out.ok.append (Ok.replicate _)) (HV.out.ok.append (Ok.replicate _))
        (fun i _ => by rw [padP_getD]; exact allR_get hR i) (fun i _ => by rw [padP_getD]; exact allR_get hS i))
      have hfx : fF (padP xs) = fF xs := funext fun i => by unfold fF; rw [padP_getD]
      have hfy : fF (padP ys) = fF ys := funext fun i => by unfold fF; rw [padP_getD]
      rw [hfx, hfy] at hpr
      have HM : Hid (n ≤ 2 ^ m) := hid (by omega)
      have HB := hid hbl
      clear hfx hfy hbn hbl
      go_wp2_with fail
      refine hpr.out.mono ?_
      rintro e w4 ⟨C, rfl, hCl, hCo, hf4, hC⟩
      have HF4 := hid (HF2.out.trans hf4)
      have HC := hid hC
      clear hf4 hC hpr
      dsimp only
      rename_i hK
      refine hK _ _ ?_
      refine law_allocP rfl rfl ?_
      intro w5 hA5 hF5
      refine law_storeP rfl _ _ rfl _ _ _ rfl rfl hA5 hCl hCo ?_
      intro w6 hA6 hO6
      have HF6 := hid ((HF4.out.trans hF5).wrote hO6 (HF4.out.size))
      have hls := hid (list_any n hA6 n1)
      clear hA5 hF5 hO6 hA6
      have hcv : Hid (C.take n = cvL xs ys) := by
        refine hid (list_ext ?_ fun i hi => ?_)
        · rw [cvL_len, ← HLA.out, ← HLB.out, List.length_take, hCl, ← HN.out]; omega
        · rw [List.length_take, hCl] at hi
          have hi2 : i < n := by omega
          have hi3 : i < 2 ^ m := by have := HM.out; omega
          rw [List.getD_eq_getElem?_getD, List.getElem?_take, if_pos hi2, ← List.getD_eq_getElem?_getD, HC.out i hi3, cvL_getD xs ys i (by rw [← HLA.out, ← HLB.out, ← HN.out]; exact hi2)]
          have hun := dft_undo (cvF (fF xs) xs.length (fF ys) ys.length) m HB.out i hi3
          have hin : ∀ j, dft (fF xs) (rtF false (2 ^ m)) (2 ^ m) j * dft (fF ys) (rtF false (2 ^ m)) (2 ^ m) j = dft (cvF (fF xs) xs.length (fF ys) ys.length) (rtF false (2 ^ m)) (2 ^ m) j := fun j => by
            have h1 := HM.out
            have h2 := HN.out
            have h3 := HLA.out
            have h4 := HLB.out
            rw [cv_dft _ _ _ _ _ _ _ (by omega), dft_pad xs _ _ _ (by omega), dft_pad ys _ _ _ (by omega)]
          rw [show (fun j => dft (fF xs) (rtF false (2 ^ m)) (2 ^ m) j * dft (fF ys) (rtF false (2 ^ m)) (2 ^ m) j) = fun j => dft (cvF (fF xs) xs.length (fF ys) ys.length) (rtF false (2 ^ m)) (2 ^ m) j from funext hin, hun]
      rw [hcv.out] at hls
      clear hcv HC hCl hCo
      go_wp2_with fail
      refine hls.out.mono ?_
      rintro e w8 ⟨z, rfl, hz, hf8⟩
      have HZ := hid hz
      have HF8 := hid (HF6.out.trans hf8)
      clear hz hf8 hls
      go_wp2_with fail
      go_returns
      exact ⟨_, rfl, HZ.out, HF8.out⟩
    · have hS' : allR ys = false := by simpa using hS
      rw [hS'] at hay
      rw [if_neg (by rw [hR, hS']; simp), if_neg (by rw [hR, hS']; simp)]
      go_enter Try.func17, Try.ntmps17
      go_wp2_with fail
      refine hax.out.mono ?_
      rintro e w1 ⟨rfl, hww⟩
      rw [hww]
      clear hww w1
      go_wp2_with fail
      refine hay.out.mono ?_
      rintro e w1 ⟨rfl, hww⟩
      rw [hww]
      clear hww w1
      go_wp2_with fail
      go_returns
      exact ⟨_, rfl, Rd.nil _, Fwd.refl _⟩
  · have hR' : allR xs = false := by simpa using hR
    rw [hR'] at hax
    rw [if_neg (by rw [hR']; simp), if_neg (by rw [hR']; simp)]
    go_enter Try.func17, Try.ntmps17
    go_wp2_with fail
    refine hax.out.mono ?_
    rintro e w1 ⟨rfl, hww⟩
    rw [hww]
    clear hww w1
    go_wp2_with fail
    go_returns
    exact ⟨_, rfl, Rd.nil _, Fwd.refl _⟩

theorem Conv_any {w : World} {u v : Value} {xs ys : List Nat} (hu : Rd w u xs) (hv : Rd w v ys) (lx : xs.length ≤ 1000000000) (ly : ys.length ≤ 1000000000) :
    Calls Try.prog 17 #[u, v] w fun e w' => ∃ z, e = .returned (.tuple #[z, .int .i64 (((cvA xs ys).2 : Nat) : Int)]) ∧ Rd w' z (cvA xs ys).1 ∧ Fwd w w' := by
  unfold cvA
  by_cases h : xs.length = 0 ∨ ys.length = 0 ∨ 1025 < xs.length + ys.length
  · rw [if_pos h]
    refine (Conv_long hu hv lx ly h).mono ?_
    rintro e w1 ⟨rfl, hf⟩
    exact ⟨_, rfl, Rd.nil _, hf⟩
  · rw [if_neg h]
    refine (Conv_short hu hv (by omega) (by omega) (by omega)).mono ?_
    rintro e w1 ⟨z, rfl, hz, hf⟩
    refine ⟨z, ?_, ?_, hf⟩
    · split <;> rfl
    · split <;> simp_all
end Go.Proofs.Ytimlpehgafjkpaa
