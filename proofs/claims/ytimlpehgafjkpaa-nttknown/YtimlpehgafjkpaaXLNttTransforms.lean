/- The walk of NttTransforms. -/
import Derived.Test.YtimlpehgafjkpaaXNT20
namespace Go.Proofs.Ytimlpehgafjkpaa
open Go.RowKit Go.Maps
set_option linter.unusedVariables false
set_option linter.unusedSimpArgs false

theorem same8_self {w : World} {u v : Value} {xs : List Nat} (hu : Rd w u xs) (hv : Rd w v xs) (hs : xs.length ≤ 1000000000) :
    Calls Try.prog 16 #[u, v] w fun e w' => e = .returned (.bool true) ∧ Fwd w w' := by
  refine (same8_any hu hv hs hs).mono ?_
  rintro e w1 ⟨rfl, hf⟩
  exact ⟨by rw [decide_eq_true rfl], hf⟩
theorem within8 (w : World) (a : Int) (n : Nat) (hn : 0 < n) (hn2 : n ≤ 1000000000) (ha1 : -9223372036854775808 ≤ a) (ha2 : a ≤ 9223372036854775807) :
    Calls Try.prog 13 #[.int .i64 a, .int .i64 n] w fun e w' => e = .returned (.int .i64 ((a % (n : Int)).toNat : Nat)) ∧ w' = w := by
  refine (within_l8 w a n hn hn2 ha1 ha2).mono ?_
  rintro e w1 ⟨rfl, hww⟩
  have : 0 ≤ a % (n : Int) := Int.emod_nonneg _ (by omega)
  refine ⟨rt_int (by omega), hww.symm⟩
theorem pow2_wrap {m : Nat} (h : m ≤ 30) : wrap64 (2 ^ m) = ((2 ^ m : Nat) : Int) := by
  have hp : 2 ^ m ≤ 2 ^ 30 := Nat.pow_le_pow_right (by omega) h
  have e : ((2 : Int) ^ m) = ((2 ^ m : Nat) : Int) := by simp
  rw [e]
  generalize 2 ^ m = N at *
  unfold wrap64
  omega
theorem allR_trF (back : Bool) (xs : List Nat) : allR (trF back xs) = true := by
  unfold allR
  rw [List.all_eq_true]
  intro x hx
  unfold trF at hx
  obtain ⟨i, _, rfl⟩ := List.mem_map.1 hx
  exact decide_eq_true (vF_lt _)
theorem trF_undo {xs : List Nat} (m : Nat) (hm : m ≤ 10) (hl : xs.length = 2 ^ m) (hR : allR xs = true) : trF true (trF false xs) = xs := by
  refine list_ext (by rw [trF_len, trF_len]) fun i hi => ?_
  rw [trF_len, trF_len] at hi
  rw [trF_getD _ _ _ (by rw [trF_len]; exact hi), trF_len]
  refine (vF_of (allR_get hR i) ?_).symm
  have h := dft_undo (fF xs) m hm i (by rw [← hl]; exact hi)
  rw [← hl] at h
  have hd : dft (fF (trF false xs)) (rtF true xs.length) xs.length i = dft (fun j => dft (fF xs) (rtF false xs.length) xs.length j) (rtF true xs.length) xs.length i := by
    refine dft_congr fun j hj => ?_
    show cF ((trF false xs).getD j 0) = _
    rw [trF_getD _ _ _ hj, cF_v, shF_false]
    grind
  rw [hd, h]
  rfl
theorem isPow_pow {m : Nat} (hm : m ≤ 10) : isPow (2 ^ m) = true := isPow_iff.2 ⟨m, by omega, rfl⟩

set_option maxHeartbeats 8000000 in
theorem nttTransforms_walk {w : World} {l r : Value} {k n : Int} {xl xr : List Nat} (hl : Arg w l xl) (hk : (Lit.int .i64 k).wf = true) (hn : (Lit.int .i64 n).wf = true) (hr : Arg w r xr) :
    Calls Try.prog 4 #[l, .int .i64 k, .int .i64 n, r] w fun e w' => e = .returned (.bool true) ∧ Below w.heap.size w w' := by
  obtain ⟨k1, k2⟩ := bounds_i64 hk
  obtain ⟨n1, n2⟩ := bounds_i64 hn
  clear hk hn
  obtain ⟨rao, rac, rfl, r1, r2, _⟩ := hr.len
  have HL := hid hl
  have HR := hid hr
  by_cases hlen : 40 < xr.length
  · go_enter Try.func4, Try.ntmps4
    go_wp2_with fail
    refine (known8_any _).mono ?_
    rintro e w1 ⟨rfl, hf⟩
    go_wp2_with fail
    go_ret
    exact ⟨rfl, hf⟩
  have hm7 : (k % ((7 : Nat) : Int)).toNat < 7 := by omega
  have hq2 : (n % ((2 : Nat) : Int)).toNat < 2 := by omega
  have hs70 : (n % ((70 : Nat) : Int)).toNat < 70 := by omega
  have cM : Hid (∀ w', Calls Try.prog 13 #[.int .i64 k, .int .i64 7] w' fun e w'' => e = .returned (.int .i64 ((k % ((7 : Nat) : Int)).toNat : Nat)) ∧ w'' = w') := hid fun w' => within8 w' k 7 (by omega) (by omega) k1 k2
  have cQ : Hid (∀ w', Calls Try.prog 13 #[.int .i64 n, .int .i64 2] w' fun e w'' => e = .returned (.int .i64 ((n % ((2 : Nat) : Int)).toNat : Nat)) ∧ w'' = w') := hid fun w' => within8 w' n 2 (by omega) (by omega) n1 n2
  have cS : Hid (∀ w', Calls Try.prog 13 #[.int .i64 n, .int .i64 70] w' fun e w'' => e = .returned (.int .i64 ((n % ((70 : Nat) : Int)).toNat : Nat)) ∧ w'' = w') := hid fun w' => within8 w' n 70 (by omega) (by omega) n1 n2
  obtain ⟨m, hm⟩ : ∃ m, m = (k % ((7 : Nat) : Int)).toNat := ⟨_, rfl⟩
  obtain ⟨q, hq⟩ : ∃ q, q = (n % ((2 : Nat) : Int)).toNat := ⟨_, rfl⟩
  obtain ⟨s, hs⟩ : ∃ s, s = (n % ((70 : Nat) : Int)).toNat := ⟨_, rfl⟩
  rw [← hm] at hm7 cM
  rw [← hq] at hq2 cQ
  rw [← hs] at hs70 cS
  clear hm hq hs
  have hp2 : 2 ^ m ≤ 2 ^ 6 := Nat.pow_le_pow_right (by omega) (by omega)
  have HW := hid (pow2_wrap (m := m) (by omega))
  obtain ⟨V, hV⟩ : ∃ V, V = rowL xl (2 ^ m) := ⟨_, rfl⟩
  obtain ⟨T, hT⟩ : ∃ T, T = trF false V := ⟨_, rfl⟩
  obtain ⟨C, hC⟩ : ∃ C, C = trF true V := ⟨_, rfl⟩
  obtain ⟨S, hS⟩ : ∃ S, S = rowL xl s := ⟨_, rfl⟩
  have lV : V.length = 2 ^ m := by rw [hV, rowL_len]
  have rV : allR V = true := by rw [hV]; exact rowL_rem _ _ (by omega)
  have aT : trA false V = (T, 0) := by rw [trA_good (by rw [lV]; exact isPow_pow (by omega)) rV, hT]
  have aC : trA true V = (C, 0) := by rw [trA_good (by rw [lV]; exact isPow_pow (by omega)) rV, hC]
  have lT : T.length = 2 ^ m := by rw [hT, trF_len, lV]
  have aB : trA true T = (V, 0) := by rw [trA_good (by rw [lT]; exact isPow_pow (by omega)) (by rw [hT]; exact allR_trF _ _), hT, trF_undo m (by omega) lV rV]
  have cRow : Hid (∀ {w' : World}, Arg w' l xl → Calls Try.prog 12 #[l, .int .i64 ((2 ^ m : Nat) : Int)] w' fun e w'' => ∃ u, e = .returned u ∧ Rd w'' u V ∧ Fwd w' w'') := hid fun h => by rw [hV]; exact Row_any _ h (by omega)
  have cRow2 : Hid (∀ {w' : World}, Arg w' l xl → Calls Try.prog 12 #[l, .int .i64 (s : Int)] w' fun e w'' => ∃ u, e = .returned u ∧ Rd w'' u S ∧ Fwd w' w'') := hid fun h => by rw [hS]; exact Row_any _ h (by omega)
  have cT : Hid (∀ {w' : World} {v : Value}, Rd w' v V → Calls Try.prog 14 #[v, .bool false] w' fun e w'' => ∃ u, e = .returned (.tuple #[u, .int .i64 0]) ∧ Rd w'' u T ∧ Fwd w' w'') := hid fun h => by have := Transform_any false h; rw [aT] at this; exact this
  have cT8 : Hid (∀ {w' : World} {v : Value}, Rd w' v V → Calls Try.prog 15 #[v, .bool false] w' fun e w'' => ∃ u, e = .returned (.tuple #[u, .int .i64 0]) ∧ Rd w'' u T ∧ Fwd w' w'') := hid fun h => by have := Transform8_any false h; rw [aT] at this; exact this
  have cB : Hid (∀ {w' : World} {v : Value}, Rd w' v T → Calls Try.prog 14 #[v, .bool true] w' fun e w'' => ∃ u, e = .returned (.tuple #[u, .int .i64 0]) ∧ Rd w'' u V ∧ Fwd w' w'') := hid fun h => by have := Transform_any true h; rw [aB] at this; exact this
  have cC : Hid (∀ {w' : World} {v : Value}, Rd w' v V → Calls Try.prog 14 #[v, .bool true] w' fun e w'' => ∃ u, e = .returned (.tuple #[u, .int .i64 0]) ∧ Rd w'' u C ∧ Fwd w' w'') := hid fun h => by have := Transform_any true h; rw [aC] at this; exact this
  have cC8 : Hid (∀ {w' : World} {v : Value}, Rd w' v V → Calls Try.prog 15 #[v, .bool true] w' fun e w'' => ∃ u, e = .returned (.tuple #[u, .int .i64 0]) ∧ Rd w'' u C ∧ Fwd w' w'') := hid fun h => by have := Transform8_any true h; rw [aC] at this; exact this
  have sV : Hid (V.length ≤ 1000000000) := hid (by rw [lV]; omega)
  have sT : Hid (T.length ≤ 1000000000) := hid (by rw [lT]; omega)
  have sC : Hid (C.length ≤ 1000000000) := hid (by rw [hC, trF_len, lV]; omega)
  obtain ⟨qb, hqb⟩ : ∃ qb : Bool, qb = ((q : Int) == 0) := ⟨_, rfl⟩
  obtain ⟨A, hA⟩ : ∃ A, A = trA qb xr := ⟨_, rfl⟩
  obtain ⟨D, hD⟩ : ∃ D, D = trA false S := ⟨_, rfl⟩
  have hAl : Hid (A.1.length ≤ 1000000000) := hid (by
    rw [hA]; unfold trA
    split
    · split
      · show (trF _ _).length ≤ _
        rw [trF_len]; omega
      · simp
    · simp)
  have hDl : Hid (D.1.length ≤ 1000000000) := hid (by
    rw [hD]; unfold trA
    split
    · split
      · show (trF _ _).length ≤ _
        rw [trF_len, hS, rowL_len]; omega
      · simp
    · simp)
  have cA : Hid (∀ {w' : World}, Arg w' (.slice rao xr.length rac) xr → Calls Try.prog 14 #[.slice rao xr.length rac, .bool qb] w' fun e w'' => ∃ u, e = .returned (.tuple #[u, .int .i64 (A.2 : Int)]) ∧ Rd w'' u A.1 ∧ Fwd w' w'') := hid fun h => by rw [hA]; exact Transform_arg qb h
  have cA8 : Hid (∀ {w' : World}, Arg w' (.slice rao xr.length rac) xr → Calls Try.prog 15 #[.slice rao xr.length rac, .bool qb] w' fun e w'' => ∃ u, e = .returned (.tuple #[u, .int .i64 (A.2 : Int)]) ∧ Rd w'' u A.1 ∧ Fwd w' w'') := hid fun h => by rw [hA]; exact Transform8_arg qb h
  have cD : Hid (∀ {w' : World} {v : Value}, Rd w' v S → Calls Try.prog 14 #[v, .bool false] w' fun e w'' => ∃ u, e = .returned (.tuple #[u, .int .i64 (D.2 : Int)]) ∧ Rd w'' u D.1 ∧ Fwd w' w'') := hid fun h => by rw [hD]; exact Transform_any false h
  have cD8 : Hid (∀ {w' : World} {v : Value}, Rd w' v S → Calls Try.prog 15 #[v, .bool false] w' fun e w'' => ∃ u, e = .returned (.tuple #[u, .int .i64 (D.2 : Int)]) ∧ Rd w'' u D.1 ∧ Fwd w' w'') := hid fun h => by rw [hD]; exact Transform8_any false h
  have hqi : ((q : Int) == 0) = qb := hqb.symm
  have HQ := hid hqi
  obtain ⟨A1, A2⟩ := A
  obtain ⟨D1, D2⟩ := D
  clear hV hT hC hS lV rV aT aC lT aB hp2 hA hD hqb hqi hl hr
  dsimp only at *
  go_enter Try.func4, Try.ntmps4
  go_wp2_with fail
  refine (known8_any _).mono ?_
  rintro e w1 ⟨rfl, hf⟩
  have HF := hid hf
  replace HL := hid (HL.out.fwd8 hf)
  replace HR := hid (HR.out.fwd8 hf)
  clear hf
  go_wp2_with fail
  refine (cM.out _).mono ?_
  rintro e w2 ⟨rfl, hww⟩
  rw [hww]
  clear hww w2
  go_wp2_with fail
  rw [HW.out]
  refine (cRow.out HL.out).mono ?_
  rintro e w3 ⟨u0, rfl, hn, hf⟩
  replace HL := hid (HL.out.fwd8 hf)
  replace HR := hid (HR.out.fwd8 hf)
  replace HF := hid (HF.out.trans hf)
  have HV := hid hn
  clear hn
  clear hf
  go_wp2_with fail
  refine (cT.out HV.out).mono ?_
  rintro e w4 ⟨u1, rfl, hn, hf⟩
  replace HL := hid (HL.out.fwd8 hf)
  replace HR := hid (HR.out.fwd8 hf)
  replace HV := hid (HV.out.fwd hf)
  replace HF := hid (HF.out.trans hf)
  have HT := hid hn
  clear hn
  clear hf
  go_wp2_with fail
  refine (cT8.out HV.out).mono ?_
  rintro e w5 ⟨u2, rfl, hn, hf⟩
  replace HL := hid (HL.out.fwd8 hf)
  replace HR := hid (HR.out.fwd8 hf)
  replace HV := hid (HV.out.fwd hf)
  replace HT := hid (HT.out.fwd hf)
  replace HF := hid (HF.out.trans hf)
  have HT8 := hid hn
  clear hn
  clear hf
  go_wp2_with fail
  refine (cB.out HT.out).mono ?_
  rintro e w6 ⟨u3, rfl, hn, hf⟩
  replace HL := hid (HL.out.fwd8 hf)
  replace HR := hid (HR.out.fwd8 hf)
  replace HV := hid (HV.out.fwd hf)
  replace HT := hid (HT.out.fwd hf)
  replace HT8 := hid (HT8.out.fwd hf)
  replace HF := hid (HF.out.trans hf)
  have HB := hid hn
  clear hn
  clear hf
  go_wp2_with fail
  refine (cC8.out HV.out).mono ?_
  rintro e w7 ⟨u4, rfl, hn, hf⟩
  replace HL := hid (HL.out.fwd8 hf)
  replace HR := hid (HR.out.fwd8 hf)
  replace HV := hid (HV.out.fwd hf)
  replace HT := hid (HT.out.fwd hf)
  replace HT8 := hid (HT8.out.fwd hf)
  replace HB := hid (HB.out.fwd hf)
  replace HF := hid (HF.out.trans hf)
  have HC8 := hid hn
  clear hn
  clear hf
  go_wp2_with fail
  refine (cC.out HV.out).mono ?_
  rintro e w8 ⟨u5, rfl, hn, hf⟩
  replace HL := hid (HL.out.fwd8 hf)
  replace HR := hid (HR.out.fwd8 hf)
  replace HV := hid (HV.out.fwd hf)
  replace HT := hid (HT.out.fwd hf)
  replace HT8 := hid (HT8.out.fwd hf)
  replace HB := hid (HB.out.fwd hf)
  replace HC8 := hid (HC8.out.fwd hf)
  replace HF := hid (HF.out.trans hf)
  have HC := hid hn
  clear hn
  clear hf
  go_wp2_with fail
  refine (cQ.out _).mono ?_
  rintro e w9 ⟨rfl, hww⟩
  rw [hww]
  clear hww w9
  go_wp2_with fail
  rw [HQ.out]
  refine (cA.out HR.out).mono ?_
  rintro e w10 ⟨u6, rfl, hn, hf⟩
  replace HL := hid (HL.out.fwd8 hf)
  replace HR := hid (HR.out.fwd8 hf)
  replace HV := hid (HV.out.fwd hf)
  replace HT := hid (HT.out.fwd hf)
  replace HT8 := hid (HT8.out.fwd hf)
  replace HB := hid (HB.out.fwd hf)
  replace HC8 := hid (HC8.out.fwd hf)
  replace HC := hid (HC.out.fwd hf)
  replace HF := hid (HF.out.trans hf)
  have HA := hid hn
  clear hn
  clear hf
  go_wp2_with fail
  refine (cQ.out _).mono ?_
  rintro e w11 ⟨rfl, hww⟩
  rw [hww]
  clear hww w11
  go_wp2_with fail
  rw [HQ.out]
  refine (cA8.out HR.out).mono ?_
  rintro e w12 ⟨u7, rfl, hn, hf⟩
  replace HL := hid (HL.out.fwd8 hf)
  replace HR := hid (HR.out.fwd8 hf)
  replace HV := hid (HV.out.fwd hf)
  replace HT := hid (HT.out.fwd hf)
  replace HT8 := hid (HT8.out.fwd hf)
  replace HB := hid (HB.out.fwd hf)
  replace HC8 := hid (HC8.out.fwd hf)
  replace HC := hid (HC.out.fwd hf)
  replace HA := hid (HA.out.fwd hf)
  replace HF := hid (HF.out.trans hf)
  have HA8 := hid hn
  clear hn
  clear hf
  go_wp2_with fail
  refine (cS.out _).mono ?_
  rintro e w13 ⟨rfl, hww⟩
  rw [hww]
  clear hww w13
  go_wp2_with fail
  refine (cRow2.out HL.out).mono ?_
  rintro e w14 ⟨u8, rfl, hn, hf⟩
  replace HL := hid (HL.out.fwd8 hf)
  replace HV := hid (HV.out.fwd hf)
  replace HT := hid (HT.out.fwd hf)
  replace HT8 := hid (HT8.out.fwd hf)
  replace HB := hid (HB.out.fwd hf)
  replace HC8 := hid (HC8.out.fwd hf)
  replace HC := hid (HC.out.fwd hf)
  replace HA := hid (HA.out.fwd hf)
  replace HA8 := hid (HA8.out.fwd hf)
  replace HF := hid (HF.out.trans hf)
  have HS := hid hn
  clear hn
  clear hf
  go_wp2_with fail
  refine (cD.out HS.out).mono ?_
  rintro e w15 ⟨u9, rfl, hn, hf⟩
  replace HV := hid (HV.out.fwd hf)
  replace HT := hid (HT.out.fwd hf)
  replace HT8 := hid (HT8.out.fwd hf)
  replace HB := hid (HB.out.fwd hf)
  replace HC8 := hid (HC8.out.fwd hf)
  replace HC := hid (HC.out.fwd hf)
  replace HA := hid (HA.out.fwd hf)
  replace HA8 := hid (HA8.out.fwd hf)
  replace HS := hid (HS.out.fwd hf)
  replace HF := hid (HF.out.trans hf)
  have HD := hid hn
  clear hn
  clear hf
  go_wp2_with fail
  refine (cD8.out HS.out).mono ?_
  rintro e w16 ⟨u10, rfl, hn, hf⟩
  replace HV := hid (HV.out.fwd hf)
  replace HT := hid (HT.out.fwd hf)
  replace HT8 := hid (HT8.out.fwd hf)
  replace HB := hid (HB.out.fwd hf)
  replace HC8 := hid (HC8.out.fwd hf)
  replace HC := hid (HC.out.fwd hf)
  replace HA := hid (HA.out.fwd hf)
  replace HA8 := hid (HA8.out.fwd hf)
  replace HS := hid (HS.out.fwd hf)
  replace HD := hid (HD.out.fwd hf)
  replace HF := hid (HF.out.trans hf)
  have HD8 := hid hn
  clear hn
  clear hf
  go_wp2_with fail
  refine (same8_self HT.out HT8.out sT.out).mono ?_
  rintro e w17 ⟨rfl, hf⟩
  replace HV := hid (HV.out.fwd hf)
  replace HT := hid (HT.out.fwd hf)
  replace HT8 := hid (HT8.out.fwd hf)
  replace HB := hid (HB.out.fwd hf)
  replace HC8 := hid (HC8.out.fwd hf)
  replace HC := hid (HC.out.fwd hf)
  replace HA := hid (HA.out.fwd hf)
  replace HA8 := hid (HA8.out.fwd hf)
  replace HD := hid (HD.out.fwd hf)
  replace HD8 := hid (HD8.out.fwd hf)
  replace HF := hid (HF.out.trans hf)
  clear hf
  go_wp2_with fail
  refine (same8_self HB.out HV.out sV.out).mono ?_
  rintro e w18 ⟨rfl, hf⟩
  replace HV := hid (HV.out.fwd hf)
  replace HT := hid (HT.out.fwd hf)
  replace HT8 := hid (HT8.out.fwd hf)
  replace HB := hid (HB.out.fwd hf)
  replace HC8 := hid (HC8.out.fwd hf)
  replace HC := hid (HC.out.fwd hf)
  replace HA := hid (HA.out.fwd hf)
  replace HA8 := hid (HA8.out.fwd hf)
  replace HD := hid (HD.out.fwd hf)
  replace HD8 := hid (HD8.out.fwd hf)
  replace HF := hid (HF.out.trans hf)
  clear hf
  go_wp2_with fail
  refine (same8_self HC.out HC8.out sC.out).mono ?_
  rintro e w19 ⟨rfl, hf⟩
  replace HV := hid (HV.out.fwd hf)
  replace HT := hid (HT.out.fwd hf)
  replace HT8 := hid (HT8.out.fwd hf)
  replace HB := hid (HB.out.fwd hf)
  replace HC8 := hid (HC8.out.fwd hf)
  replace HC := hid (HC.out.fwd hf)
  replace HA := hid (HA.out.fwd hf)
  replace HA8 := hid (HA8.out.fwd hf)
  replace HD := hid (HD.out.fwd hf)
  replace HD8 := hid (HD8.out.fwd hf)
  replace HF := hid (HF.out.trans hf)
  clear hf
  go_wp2_with fail
  refine (same8_self HA.out HA8.out hAl.out).mono ?_
  rintro e w20 ⟨rfl, hf⟩
  replace HV := hid (HV.out.fwd hf)
  replace HT := hid (HT.out.fwd hf)
  replace HT8 := hid (HT8.out.fwd hf)
  replace HB := hid (HB.out.fwd hf)
  replace HC8 := hid (HC8.out.fwd hf)
  replace HC := hid (HC.out.fwd hf)
  replace HA := hid (HA.out.fwd hf)
  replace HA8 := hid (HA8.out.fwd hf)
  replace HD := hid (HD.out.fwd hf)
  replace HD8 := hid (HD8.out.fwd hf)
  replace HF := hid (HF.out.trans hf)
  clear hf
  go_wp2_with fail
  refine (same8_self HD.out HD8.out hDl.out).mono ?_
  rintro e w21 ⟨rfl, hf⟩
  replace HV := hid (HV.out.fwd hf)
  replace HT := hid (HT.out.fwd hf)
  replace HT8 := hid (HT8.out.fwd hf)
  replace HB := hid (HB.out.fwd hf)
  replace HC8 := hid (HC8.out.fwd hf)
  replace HC := hid (HC.out.fwd hf)
  replace HA := hid (HA.out.fwd hf)
  replace HA8 := hid (HA8.out.fwd hf)
  replace HD := hid (HD.out.fwd hf)
  replace HD8 := hid (HD8.out.fwd hf)
  replace HF := hid (HF.out.trans hf)
  clear hf
  go_wp2_with fail
  go_ret
  exact ⟨rfl, HF.out⟩
end Go.Proofs.Ytimlpehgafjkpaa
