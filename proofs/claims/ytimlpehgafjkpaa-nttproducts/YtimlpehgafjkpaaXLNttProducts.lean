/- The walk of NttProducts. -/
import Derived.Test.YtimlpehgafjkpaaXLNttTransforms
namespace Go.Proofs.Ytimlpehgafjkpaa
open Go.RowKit Go.Maps
set_option linter.unusedVariables false
set_option linter.unusedSimpArgs false

theorem cvA_len (xs ys : List Nat) (hx : xs.length ≤ 1000000) (hy : ys.length ≤ 1000000) : (cvA xs ys).1.length ≤ 1000000000 := by
  unfold cvA
  split
  · simp
  · split
    · show (cvL xs ys).length ≤ _
      rw [cvL_len]; omega
    · simp

set_option maxHeartbeats 8000000 in
set_option maxRecDepth 20000 in
theorem nttProducts_walk {w : World} {a b r : Value} {n m : Int} {xa xb xr : List Nat} (ha : Arg w a xa) (hb : Arg w b xb) (hn : (Lit.int .i64 n).wf = true) (hm : (Lit.int .i64 m).wf = true) (hr : Arg w r xr) :
    Calls Try.prog 5 #[a, b, .int .i64 n, .int .i64 m, r] w fun e w' => e = .returned (.bool true) ∧ Below w.heap.size w w' := by
  obtain ⟨n1, n2⟩ := bounds_i64 hn
  obtain ⟨m1, m2⟩ := bounds_i64 hm
  clear hn hm
  obtain ⟨rao, rac, rfl, r1, r2, _⟩ := hr.len
  have HA := hid ha
  have HB := hid hb
  have HR := hid hr
  by_cases hlen : 40 < xr.length
  · go_enter Try.func5, Try.ntmps5
    go_wp2_with fail
    refine (known8_any _).mono ?_
    rintro e w1 ⟨rfl, hf⟩
    go_wp2_with fail
    go_ret
    exact ⟨rfl, hf⟩
  have hp40 : (n % ((40 : Nat) : Int)).toNat < 40 := by omega
  have hq40 : (m % ((40 : Nat) : Int)).toNat < 40 := by omega
  have cP : Hid (∀ w', Calls Try.prog 13 #[.int .i64 n, .int .i64 40] w' fun e w'' => e = .returned (.int .i64 ((n % ((40 : Nat) : Int)).toNat : Nat)) ∧ w'' = w') := hid fun w' => within8 w' n 40 (by omega) (by omega) n1 n2
  have cQ : Hid (∀ w', Calls Try.prog 13 #[.int .i64 m, .int .i64 40] w' fun e w'' => e = .returned (.int .i64 ((m % ((40 : Nat) : Int)).toNat : Nat)) ∧ w'' = w') := hid fun w' => within8 w' m 40 (by omega) (by omega) m1 m2
  obtain ⟨p, hp⟩ : ∃ p, p = (n % ((40 : Nat) : Int)).toNat := ⟨_, rfl⟩
  obtain ⟨q, hq⟩ : ∃ q, q = (m % ((40 : Nat) : Int)).toNat := ⟨_, rfl⟩
  rw [← hp] at hp40 cP
  rw [← hq] at hq40 cQ
  clear hp hq
  obtain ⟨X, hX⟩ : ∃ X, X = rowL xa p := ⟨_, rfl⟩
  obtain ⟨Y, hY⟩ : ∃ Y, Y = rowL xb q := ⟨_, rfl⟩
  have lX : X.length ≤ 40 := by rw [hX, rowL_len]; omega
  have lY : Y.length ≤ 40 := by rw [hY, rowL_len]; omega
  have cX : Hid (∀ {w' : World}, Arg w' a xa → Calls Try.prog 12 #[a, .int .i64 (p : Int)] w' fun e w'' => ∃ u, e = .returned u ∧ Rd w'' u X ∧ Fwd w' w'') := hid fun h => by rw [hX]; exact Row_any _ h (by omega)
  have cY : Hid (∀ {w' : World}, Arg w' b xb → Calls Try.prog 12 #[b, .int .i64 (q : Int)] w' fun e w'' => ∃ u, e = .returned u ∧ Rd w'' u Y ∧ Fwd w' w'') := hid fun h => by rw [hY]; exact Row_any _ h (by omega)
  clear hX hY ha hb hr
  go_enter Try.func5, Try.ntmps5
  go_wp2_with fail
  refine (known8_any _).mono ?_
  rintro e w1 ⟨rfl, hf⟩
  have HF := hid hf
  replace HA := hid (HA.out.fwd8 hf)
  replace HB := hid (HB.out.fwd8 hf)
  replace HR := hid (HR.out.fwd8 hf)
  clear hf
  go_wp2_with fail
  refine (cP.out _).mono ?_
  rintro e w2 ⟨rfl, hww⟩
  rw [hww]
  clear hww w2
  go_wp2_with fail
  refine (cX.out HA.out).mono ?_
  rintro e w3 ⟨x, rfl, hn, hf⟩
  replace HA := hid (HA.out.fwd8 hf)
  replace HB := hid (HB.out.fwd8 hf)
  replace HR := hid (HR.out.fwd8 hf)
  replace HF := hid (HF.out.trans hf)
  have HX := hid hn
  clear hn
  clear hf
  go_wp2_with fail
  refine (cQ.out _).mono ?_
  rintro e w4 ⟨rfl, hww⟩
  rw [hww]
  clear hww w4
  go_wp2_with fail
  refine (cY.out HB.out).mono ?_
  rintro e w5 ⟨y, rfl, hn, hf⟩
  replace HA := hid (HA.out.fwd8 hf)
  replace HB := hid (HB.out.fwd8 hf)
  replace HR := hid (HR.out.fwd8 hf)
  replace HX := hid (HX.out.fwd hf)
  replace HF := hid (HF.out.trans hf)
  have HY := hid hn
  clear hn
  clear hf
  obtain ⟨xo, xc, rfl, _, _, _⟩ := HX.out.parts
  obtain ⟨yo, yc, rfl, _, _, _⟩ := HY.out.parts
  have hX6 := HX.out.fwd ((Fwd.refl w5).alloc (.cells #[.slice xo X.length xc, .slice yo Y.length yc, .slice xo X.length xc, .slice rao xr.length rac, .slice rao xr.length rac, .slice yo Y.length yc] 38))
  have hY6 := HY.out.fwd ((Fwd.refl w5).alloc (.cells #[.slice xo X.length xc, .slice yo Y.length yc, .slice xo X.length xc, .slice rao xr.length rac, .slice rao xr.length rac, .slice yo Y.length yc] 38))
  have hR6 := HR.out.fwd8 ((Fwd.refl w5).alloc (.cells #[.slice xo X.length xc, .slice yo Y.length yc, .slice xo X.length xc, .slice rao xr.length rac, .slice rao xr.length rac, .slice yo Y.length yc] 38))
  have hF6 := HF.out.alloc (.cells #[.slice xo X.length xc, .slice yo Y.length yc, .slice xo X.length xc, .slice rao xr.length rac, .slice rao xr.length rac, .slice yo Y.length yc] 38)
  have hcells : ∀ i, i < 3 → ∃ u v xs ys, (w5.alloc (.cells #[.slice xo X.length xc, .slice yo Y.length yc, .slice xo X.length xc, .slice rao xr.length rac, .slice rao xr.length rac, .slice yo Y.length yc] 38)).cell? ⟨w5.heap.size, i * 2, none⟩ = some u ∧ (w5.alloc (.cells #[.slice xo X.length xc, .slice yo Y.length yc, .slice xo X.length xc, .slice rao xr.length rac, .slice rao xr.length rac, .slice yo Y.length yc] 38)).cell? ⟨w5.heap.size, i * 2 + 1, none⟩ = some v ∧
      Arg (w5.alloc (.cells #[.slice xo X.length xc, .slice yo Y.length yc, .slice xo X.length xc, .slice rao xr.length rac, .slice rao xr.length rac, .slice yo Y.length yc] 38)) u xs ∧ Arg (w5.alloc (.cells #[.slice xo X.length xc, .slice yo Y.length yc, .slice xo X.length xc, .slice rao xr.length rac, .slice rao xr.length rac, .slice yo Y.length yc] 38)) v ys ∧ xs.length ≤ 1000000 ∧ ys.length ≤ 1000000 := by
    intro i hi
    have h3 : i = 0 ∨ i = 1 ∨ i = 2 := by omega
    rcases h3 with rfl | rfl | rfl
    · exact ⟨_, _, X, Y, cell_of_row _ _ 0 _ _ _ (heap_alloc_new w5 _), cell_of_row _ _ 1 _ _ _ (heap_alloc_new w5 _), .inl hX6, .inl hY6, by omega, by omega⟩
    · exact ⟨_, _, X, xr, cell_of_row _ _ 2 _ _ _ (heap_alloc_new w5 _), cell_of_row _ _ 3 _ _ _ (heap_alloc_new w5 _), .inl hX6, hR6, by omega, by omega⟩
    · exact ⟨_, _, xr, Y, cell_of_row _ _ 4 _ _ _ (heap_alloc_new w5 _), cell_of_row _ _ 5 _ _ _ (heap_alloc_new w5 _), hR6, .inl hY6, by omega, by omega⟩
  have HC := hid hcells
  have HF6 := hid hF6
  clear hcells hF6 hX6 hY6 hR6 HX HY HR HF
  go_wp2_with fail
  generalize hw6 : (w5.alloc (.cells #[.slice xo X.length xc, .slice yo Y.length yc, .slice xo X.length xc, .slice rao xr.length rac, .slice rao xr.length rac, .slice yo Y.length yc] 38)) = w6 at *
  clear hw6
  generalize w5.heap.size = g at *
  go_loopw [14] (fun iv wr => ∃ i : Nat, i ≤ 3 ∧ iv = .int .i64 i ∧ Fwd w6 wr) (fun iv _ => 3 - (intOf iv).toNat)
  case atStart => exact ⟨0, by omega, rfl, Fwd.refl _⟩
  case round =>
    obtain ⟨i, hi, rfl, hF⟩ := hrel
    have HFr := hid hF
    clear hF
    by_cases hi3 : i < 3
    · obtain ⟨u, v, xs, ys, cu, cv, hu, hv, lx, ly⟩ := HC.out i hi3
      have cu := HFr.out.cell cu
      have cv := HFr.out.cell cv
      have HU := hid (hu.fwd8 HFr.out)
      have HV := hid (hv.fwd8 HFr.out)
      have CU := hid cu
      have CV := hid cv
      clear hu hv
      obtain ⟨A, hA⟩ : ∃ A, A = cvA xs ys := ⟨_, rfl⟩
      have hAl : Hid (A.1.length ≤ 1000000000) := hid (by rw [hA]; exact cvA_len _ _ lx ly)
      have cC : Hid (∀ {w' : World}, Arg w' u xs → Arg w' v ys → Calls Try.prog 17 #[u, v] w' fun e w'' => ∃ z, e = .returned (.tuple #[z, .int .i64 (A.2 : Int)]) ∧ Rd w'' z A.1 ∧ Fwd w' w'') := hid fun h1 h2 => by rw [hA]; exact Conv_arg h1 h2 (by omega) (by omega)
      have cC8 : Hid (∀ {w' : World}, Arg w' u xs → Arg w' v ys → Calls Try.prog 18 #[u, v] w' fun e w'' => ∃ z, e = .returned (.tuple #[z, .int .i64 (A.2 : Int)]) ∧ Rd w'' z A.1 ∧ Fwd w' w'') := hid fun h1 h2 => by rw [hA]; exact Conv8_arg h1 h2 (by omega) (by omega)
      obtain ⟨A1, A2⟩ := A
      dsimp only at hAl cC cC8
      clear hA lx ly
      go_wp2_with fail
      trace_state
      go_region_with (go_at_call 17; refine (cC.out (show Arg wr.drew u xs from HU.out) (show Arg wr.drew v ys from HV.out)).mono ?_; rintro e w7 ⟨z, rfl, hz, hf7⟩)
      all_goals (
        simp only [Act.put, List.getElem_toArray, List.getElem_cons_succ, List.getElem_cons_zero, List.setIfInBounds_toArray, List.set_cons_zero, List.set_cons_succ]
        have hf7' : Fwd wr w7 := (Fwd.refl wr).drew.trans hf7
        have HZ := hid hz
        have HF7 := hid (HFr.out.trans hf7')
        have HU7 := hid (HU.out.fwd8 hf7')
        have HV7 := hid (HV.out.fwd8 hf7')
        have cu7 := hf7'.cell CU.out
        have cv7 := hf7'.cell CV.out
        clear cu cv hz hf7 hf7'
        go_upto_region 11 with fail
        go_region_with (go_at_call 18; refine (cC8.out (show Arg w7.drew u xs from HU7.out) (show Arg w7.drew v ys from HV7.out)).mono ?_; rintro e w8 ⟨z8, rfl, hz8, hf8⟩)
        all_goals (
          simp only [Act.put, List.getElem_toArray, List.getElem_cons_succ, List.getElem_cons_zero, List.setIfInBounds_toArray, List.set_cons_zero, List.set_cons_succ]
          have hf8' : Fwd w7 w8 := (Fwd.refl w7).drew.trans hf8
          have HZ7 := hid (HZ.out.fwd hf8')
          have HZ8 := hid hz8
          have HF8 := hid (HF7.out.trans hf8')
          clear cu7 cv7 hz8 hf8 hf8'
          go_wp2_with fail
          refine (same8_self HZ7.out HZ8.out hAl.out).mono ?_
          rintro e w9 ⟨rfl, hf9⟩
          have HF9 := hid (HF8.out.trans hf9)
          clear hf9
          go_wp2_with fail
          go_roundw
          case rel => exact ⟨i + 1, by omega, by go_num, HF9.out⟩
          case measure => simp [intOf]; omega))
    · go_wp2_with fail
      go_ret
      exact ⟨rfl, HF6.out.trans HFr.out⟩
end Go.Proofs.Ytimlpehgafjkpaa
