/- The walk of NttRules. -/
import Derived.Test.YtimlpehgafjkpaaXNT23
import Derived.Test.YtimlpehgafjkpaaXLNttPowers
import Derived.Test.YtimlpehgafjkpaaXLNttOrder
namespace Go.Proofs.Ytimlpehgafjkpaa
open Go.RowKit Go.Maps
set_option linter.unusedVariables false
set_option linter.unusedSimpArgs false

/-- A list, brought to a length. -/
def padS (xs : List Nat) (n : Nat) : List Nat := (List.range n).map fun i => xs.getD i 0
def addS (xs ys : List Nat) (n : Nat) : List Nat := (List.range n).map fun i => (xs.getD i 0 + ys.getD i 0) % 998244353
theorem padS_len (xs : List Nat) (n : Nat) : (padS xs n).length = n := by simp [padS]
theorem addS_len (xs ys : List Nat) (n : Nat) : (addS xs ys n).length = n := by simp [addS]
theorem padS_getD (xs : List Nat) (n i : Nat) (h : i < n) : (padS xs n).getD i 0 = xs.getD i 0 := by
  unfold padS
  rw [List.getD_eq_getElem?_getD, List.getElem?_map, List.getElem?_range h]; rfl
theorem addS_getD (xs ys : List Nat) (n i : Nat) (h : i < n) : (addS xs ys n).getD i 0 = (xs.getD i 0 + ys.getD i 0) % 998244353 := by
  unfold addS
  rw [List.getD_eq_getElem?_getD, List.getElem?_map, List.getElem?_range h]; rfl
theorem range_take (f : Nat → Nat) (n k : Nat) (hk : k < n) : ((List.range n).map f).take (k + 1) = ((List.range n).map f).take k ++ [f k] := by
  rw [List.take_succ_eq_append_getElem (by simpa using hk)]
  simp
theorem allR_padS {xs : List Nat} (h : allR xs = true) (n : Nat) : allR (padS xs n) = true := by
  have hg := allR_get h
  unfold allR
  rw [List.all_eq_true]
  intro x hx
  unfold padS at hx
  obtain ⟨i, _, rfl⟩ := List.mem_map.1 hx
  exact decide_eq_true (hg i)
theorem allR_addS (xs ys : List Nat) (n : Nat) : allR (addS xs ys n) = true := by
  unfold allR
  rw [List.all_eq_true]
  intro x hx
  unfold addS at hx
  obtain ⟨i, _, rfl⟩ := List.mem_map.1 hx
  exact decide_eq_true (Nat.mod_lt _ (by omega))
theorem dft_padS (xs : List Nat) (w : F) (n k : Nat) : dft (fF (padS xs n)) w n k = dft (fF xs) w n k := dft_congr fun i hi => by unfold fF; rw [padS_getD _ _ _ hi]
theorem dft_addS (xs ys : List Nat) (w : F) (n k : Nat) : dft (fF (addS xs ys n)) w n k = dft (fF xs) w n k + dft (fF ys) w n k := by
  unfold dft
  rw [← sm_add]
  refine sm_congr fun i hi => ?_
  have : fF (addS xs ys n) i = fF xs i + fF ys i := by
    unfold fF
    rw [addS_getD _ _ _ _ hi, cF_mod, cF_add]
  rw [this]; grind
theorem trF_form (xs : List Nat) (n k : Nat) (hl : xs.length = n) (hk : k < n) : (trF false xs).getD k 0 = vF (dft (fF xs) (rtF false n) n k) := by
  rw [trF_getD _ _ _ (by omega), shF_false, hl]
  congr 1
  exact rmul_one _

set_option maxHeartbeats 16000000 in
set_option maxRecDepth 20000 in
theorem nttRules_walk {w : World} {a b : Value} {k n m : Int} {xa xb : List Nat} (ha : Arg w a xa) (hb : Arg w b xb) (hk : (Lit.int .i64 k).wf = true) (hn : (Lit.int .i64 n).wf = true) (hm : (Lit.int .i64 m).wf = true) :
    Calls Try.prog 6 #[a, b, .int .i64 k, .int .i64 n, .int .i64 m] w fun e w' => e = .returned (.bool true) ∧ Below w.heap.size w w' := by
  obtain ⟨k1, k2⟩ := bounds_i64 hk
  obtain ⟨n1, n2⟩ := bounds_i64 hn
  obtain ⟨m1, m2⟩ := bounds_i64 hm
  have HA := hid ha
  have HB := hid hb
  have hk5 : (k % ((5 : Nat) : Int)).toNat < 5 := by omega
  have cK : Hid (∀ w', Calls Try.prog 13 #[.int .i64 k, .int .i64 5] w' fun e w'' => e = .returned (.int .i64 ((k % ((5 : Nat) : Int)).toNat : Nat)) ∧ w'' = w') := hid fun w' => within8 w' k 5 (by omega) (by omega) k1 k2
  obtain ⟨kk, hkk⟩ : ∃ kk, kk = (k % ((5 : Nat) : Int)).toNat := ⟨_, rfl⟩
  rw [← hkk] at hk5 cK
  clear hkk hk hn hm ha hb
  obtain ⟨e5, he5⟩ : ∃ e5, e5 = 1 + kk := ⟨_, rfl⟩
  have ie : 1 + (kk : Int) = (e5 : Int) := by omega
  have be : e5 ≤ 5 := by omega
  have hp2 : 2 ^ e5 ≤ 2 ^ 5 := Nat.pow_le_pow_right (by omega) (by omega)
  have hh2 : 2 ^ e5 = 2 * 2 ^ kk := by rw [he5, Nat.add_comm, Nat.pow_succ']
  have hh0 := Nat.two_pow_pos kk
  have HW := hid (pow2_wrap (m := e5) (by omega))
  have hpw := isPow_pow (m := e5) (by omega)
  clear he5
  obtain ⟨z, hz⟩ : ∃ z, z = 2 ^ e5 := ⟨_, rfl⟩
  obtain ⟨hf', hhf⟩ : ∃ hf', hf' = 2 ^ kk := ⟨_, rfl⟩
  rw [← hz] at hp2 hh2 HW hpw
  rw [← hhf] at hh2 hh0
  clear hz hhf
  have ih1 : (z : Int) / 2 = (hf' : Int) := by omega
  have ih2 : (z : Int).tdiv 2 = (hf' : Int) := by rw [Int.tdiv_eq_ediv_of_nonneg (by omega)]; exact ih1
  have bz : z ≤ 32 := by omega
  have z0 : 0 < z := by omega
  have hN : (n % ((hf' : Nat) : Int)).toNat < hf' := by
    have h1 := Int.emod_lt_of_pos n (show (0 : Int) < (hf' : Int) by omega)
    have h2 := Int.emod_nonneg n (show (hf' : Int) ≠ 0 by omega)
    omega
  have hM : (m % ((hf' : Nat) : Int)).toNat < hf' := by
    have h1 := Int.emod_lt_of_pos m (show (0 : Int) < (hf' : Int) by omega)
    have h2 := Int.emod_nonneg m (show (hf' : Int) ≠ 0 by omega)
    omega
  have cN : Hid (∀ w', Calls Try.prog 13 #[.int .i64 n, .int .i64 (hf' : Int)] w' fun e w'' => e = .returned (.int .i64 ((n % ((hf' : Nat) : Int)).toNat : Nat)) ∧ w'' = w') := hid fun w' => within8 w' n hf' (by omega) (by omega) n1 n2
  have cM : Hid (∀ w', Calls Try.prog 13 #[.int .i64 m, .int .i64 (hf' : Int)] w' fun e w'' => e = .returned (.int .i64 ((m % ((hf' : Nat) : Int)).toNat : Nat)) ∧ w'' = w') := hid fun w' => within8 w' m hf' (by omega) (by omega) m1 m2
  obtain ⟨p, hp⟩ : ∃ p, p = (n % ((hf' : Nat) : Int)).toNat := ⟨_, rfl⟩
  obtain ⟨q, hq⟩ : ∃ q, q = (m % ((hf' : Nat) : Int)).toNat := ⟨_, rfl⟩
  rw [← hp] at hN cN
  rw [← hq] at hM cM
  clear hp hq
  obtain ⟨lx, hlx⟩ : ∃ lx, lx = 1 + p := ⟨_, rfl⟩
  obtain ⟨ly, hly⟩ : ∃ ly, ly = 1 + q := ⟨_, rfl⟩
  have ix : 1 + (p : Int) = (lx : Int) := by omega
  have iy : 1 + (q : Int) = (ly : Int) := by omega
  have bx : lx ≤ 32 := by omega
  have by' : ly ≤ 32 := by omega
  have x0 : 0 < lx := by omega
  have y0 : 0 < ly := by omega
  have lxy : lx + ly ≤ z := by omega
  have WX : Hid (wrap64 (lx : Int) = (lx : Int)) := hid (by unfold wrap64; omega)
  have WY : Hid (wrap64 (ly : Int) = (ly : Int)) := hid (by unfold wrap64; omega)
  have WE : Hid (wrap64 (e5 : Int) = (e5 : Int)) := hid (by unfold wrap64; omega)
  have WH : Hid (wrap64 (hf' : Int) = (hf' : Int)) := hid (by unfold wrap64; omega)
  obtain ⟨lp, hlp⟩ : ∃ lp, lp = lx + ly - 1 := ⟨_, rfl⟩
  have ip : (lx : Int) + (ly : Int) - 1 = (lp : Int) := by omega
  have bp : lp < z := by omega
  clear hlx hly hh2 hh0 hN hM hk5
  obtain ⟨X, hX⟩ : ∃ X, X = rowL xa lx := ⟨_, rfl⟩
  obtain ⟨Y, hY⟩ : ∃ Y, Y = rowL xb ly := ⟨_, rfl⟩
  have lX : X.length = lx := by rw [hX, rowL_len]
  have lY : Y.length = ly := by rw [hY, rowL_len]
  have rX : allR X = true := by rw [hX]; exact rowL_rem _ _ (by omega)
  have rY : allR Y = true := by rw [hY]; exact rowL_rem _ _ (by omega)
  have cX : Hid (∀ {w' : World}, Arg w' a xa → Calls Try.prog 12 #[a, .int .i64 (lx : Int)] w' fun e w'' => ∃ u, e = .returned u ∧ Rd w'' u X ∧ Fwd w' w'') := hid fun h => by rw [hX]; exact Row_any _ h (by omega)
  have cY : Hid (∀ {w' : World}, Arg w' b xb → Calls Try.prog 12 #[b, .int .i64 (ly : Int)] w' fun e w'' => ∃ u, e = .returned u ∧ Rd w'' u Y ∧ Fwd w' w'') := hid fun h => by rw [hY]; exact Row_any _ h (by omega)
  have g1 := cvA_good (xs := X) (ys := Y) (by omega) (by omega) (by omega) rX rY
  have lP := cvL_len X Y
  rw [lX, lY, ← hlp] at lP
  have hmul := fun w i => dft_cvL X Y w z i (by omega) (by omega) (by omega)
  obtain ⟨P, hP⟩ : ∃ P, P = cvL X Y := ⟨_, rfl⟩
  have rP : allR P = true := by rw [hP]; exact allR_cvL _ _
  rw [← hP] at g1 lP
  rw [← hP] at hmul
  obtain ⟨A, hA⟩ : ∃ A, A = padS X z := ⟨_, rfl⟩
  obtain ⟨B, hB⟩ : ∃ B, B = padS Y z := ⟨_, rfl⟩
  obtain ⟨Q, hQ⟩ : ∃ Q, Q = padS P z := ⟨_, rfl⟩
  obtain ⟨S, hS⟩ : ∃ S, S = addS X Y z := ⟨_, rfl⟩
  have lA : A.length = z := by rw [hA, padS_len]
  have lB : B.length = z := by rw [hB, padS_len]
  have lQ : Q.length = z := by rw [hQ, padS_len]
  have lS : S.length = z := by rw [hS, addS_len]
  have tA : Hid (∀ j, j < z → A.take (j + 1) = A.take j ++ [X.getD j 0]) := hid fun j hj => by rw [hA]; exact range_take _ _ _ hj
  have tB : Hid (∀ j, j < z → B.take (j + 1) = B.take j ++ [Y.getD j 0]) := hid fun j hj => by rw [hB]; exact range_take _ _ _ hj
  have tQ : Hid (∀ j, j < z → Q.take (j + 1) = Q.take j ++ [P.getD j 0]) := hid fun j hj => by rw [hQ]; exact range_take _ _ _ hj
  have tS : Hid (∀ j, j < z → S.take (j + 1) = S.take j ++ [(X.getD j 0 + Y.getD j 0) % 998244353]) := hid fun j hj => by rw [hS]; exact range_take _ _ _ hj
  obtain ⟨A2, hA2⟩ : ∃ A2, A2 = trF false A := ⟨_, rfl⟩
  obtain ⟨B2, hB2⟩ : ∃ B2, B2 = trF false B := ⟨_, rfl⟩
  obtain ⟨Q2, hQ2⟩ : ∃ Q2, Q2 = trF false Q := ⟨_, rfl⟩
  obtain ⟨S2, hS2⟩ : ∃ S2, S2 = trF false S := ⟨_, rfl⟩
  have aA : trA false A = (A2, 0) := by rw [trA_good (by rw [lA]; exact hpw) (by rw [hA]; exact allR_padS rX _), hA2]
  have aB : trA false B = (B2, 0) := by rw [trA_good (by rw [lB]; exact hpw) (by rw [hB]; exact allR_padS rY _), hB2]
  have aQ : trA false Q = (Q2, 0) := by rw [trA_good (by rw [lQ]; exact hpw) (by rw [hQ]; exact allR_padS rP _), hQ2]
  have aS : trA false S = (S2, 0) := by rw [trA_good (by rw [lS]; exact hpw) (by rw [hS]; exact allR_addS _ _ _), hS2]
  have lA2 : A2.length = z := by rw [hA2, trF_len, lA]
  have lB2 : B2.length = z := by rw [hB2, trF_len, lB]
  have lQ2 : Q2.length = z := by rw [hQ2, trF_len, lQ]
  have lS2 : S2.length = z := by rw [hS2, trF_len, lS]
  have fin : Hid (∀ j, j < z → A2.getD j 0 * B2.getD j 0 % 998244353 = Q2.getD j 0 ∧ (A2.getD j 0 + B2.getD j 0) % 998244353 = S2.getD j 0 ∧ A2.getD j 0 < 998244353 ∧ B2.getD j 0 < 998244353) := hid fun j hj => by
    have f1 : A2.getD j 0 = vF (dft (fF X) (rtF false z) z j) := by rw [hA2, trF_form A z j lA hj, hA, dft_padS]
    have f2 : B2.getD j 0 = vF (dft (fF Y) (rtF false z) z j) := by rw [hB2, trF_form B z j lB hj, hB, dft_padS]
    have f3 : Q2.getD j 0 = vF (dft (fF X) (rtF false z) z j * dft (fF Y) (rtF false z) z j) := by rw [hQ2, trF_form Q z j lQ hj, hQ, dft_padS, hmul]
    have f4 : S2.getD j 0 = vF (dft (fF X) (rtF false z) z j + dft (fF Y) (rtF false z) z j) := by rw [hS2, trF_form S z j lS hj, hS, dft_addS]
    rw [f1, f2, f3, f4]
    refine ⟨rem_lt, ?_, vF_lt _, vF_lt _⟩
    refine vF_of (Nat.mod_lt _ (by omega)) ?_
    rw [cF_mod, cF_add, cF_v, cF_v]
  have cT : Hid (∀ {w' : World} {v : Value} {xs ys : List Nat}, Rd w' v xs → trA false xs = (ys, 0) → Calls Try.prog 14 #[v, .bool false] w' fun e w'' => ∃ u, e = .returned (.tuple #[u, .int .i64 0]) ∧ Rd w'' u ys ∧ Fwd w' w'') := hid fun h h2 => by have := Transform_any false h; rw [h2] at this; exact this
  have cC : Hid (∀ {w' : World} {u v : Value}, Rd w' u X → Rd w' v Y → Calls Try.prog 17 #[u, v] w' fun e w'' => ∃ z, e = .returned (.tuple #[z, .int .i64 0]) ∧ Rd w'' z P ∧ Fwd w' w'') := hid fun h1 h2 => by have := Conv_any h1 h2 (by omega) (by omega); rw [g1] at this; exact this
  have AA := hid aA
  have AB := hid aB
  have AQ := hid aQ
  have AS := hid aS
  have RX := hid (allR_get rX)
  have RY := hid (allR_get rY)
  have RP := hid (allR_get rP)
  have LX := hid lX
  have LY := hid lY
  have LP := hid lP
  have LA := hid lA
  have LB := hid lB
  have LQ := hid lQ
  have LS := hid lS
  have LA2 := hid lA2
  have LB2 := hid lB2
  have LQ2 := hid lQ2
  have LS2 := hid lS2
  clear hX hY hP hA hB hQ hS hA2 hB2 hQ2 hS2 lX lY lP lA lB lQ lS lA2 lB2 lQ2 lS2 aA aB aQ aS rX rY rP g1 hmul hpw hp2 hlp
  go_enter Try.func6, Try.ntmps6
  go_wp2_with fail
  refine (known8_any _).mono ?_
  rintro e w1 ⟨rfl, hf⟩
  have HF := hid hf
  replace HA := hid (HA.out.fwd8 hf)
  replace HB := hid (HB.out.fwd8 hf)
  clear hf
  go_wp2_with fail
  refine (cK.out _).mono ?_
  rintro e w2 ⟨rfl, hww⟩
  rw [hww]
  clear hww w2
  go_wp2_with fail
  rw [HW.out, ih2, WH.out]
  refine (cN.out _).mono ?_
  rintro e w3 ⟨rfl, hww⟩
  rw [hww]
  clear hww w3
  go_wp2_with fail
  refine (cX.out HA.out).mono ?_
  rintro e w4 ⟨u1, rfl, hn, hf⟩
  replace HA := hid (HA.out.fwd8 hf)
  replace HB := hid (HB.out.fwd8 hf)
  replace HF := hid (HF.out.trans hf)
  have HX := hid hn
  clear hn
  clear hf
  go_wp2_with fail
  try rw [ih2, WH.out]
  refine (cM.out _).mono ?_
  rintro e w5 ⟨rfl, hww⟩
  rw [hww]
  clear hww w5
  go_wp2_with fail
  refine (cY.out HB.out).mono ?_
  rintro e w6 ⟨u2, rfl, hn, hf⟩
  replace HA := hid (HA.out.fwd8 hf)
  replace HB := hid (HB.out.fwd8 hf)
  replace HX := hid (HX.out.fwd hf)
  replace HF := hid (HF.out.trans hf)
  have HY := hid hn
  clear hn
  clear hf
  go_wp2_with fail
  refine (cC.out HX.out HY.out).mono ?_
  rintro e w7 ⟨u3, rfl, hn, hf⟩
  replace HA := hid (HA.out.fwd8 hf)
  replace HB := hid (HB.out.fwd8 hf)
  replace HX := hid (HX.out.fwd hf)
  replace HY := hid (HY.out.fwd hf)
  replace HF := hid (HF.out.trans hf)
  have HP := hid hn
  clear hn
  clear hf
  obtain ⟨xo, xc, rfl, _, _, _⟩ := HX.out.parts
  obtain ⟨yo, yc, rfl, _, _, _⟩ := HY.out.parts
  obtain ⟨po, pc, rfl, _, _, _⟩ := HP.out.parts
  rw [LX.out] at HX ⊢
  rw [LY.out] at HY ⊢
  rw [LP.out] at HP ⊢
  have I1 : (lx : Int) + (ly : Int) - 1 = (lp : Int) := ip
  go_wp2_with fail
  have hb0 : Hid (w7.heap.size ≤ w7.heap.size) := hid (Nat.le_refl _)
  clear HA HB cX cY cC cN cM
  go_loopw [16, 17, 18, 19, 20] (fun uv vv wv sv iv wr => ∃ i : Nat, i ≤ z ∧ iv = .int .i64 i ∧ Four wr w7.heap.size uv vv wv sv (A.take i) (B.take i) (Q.take i) (S.take i) ∧ Fwd w7 wr) (fun _ _ _ _ iv _ => z - (intOf iv).toNat)
  case atStart => exact ⟨0, by omega, rfl, Four.nil _ _, Fwd.refl _⟩
  case round =>
    obtain ⟨i, hi, rfl, hO, hFr⟩ := hrel
    have HO := hid hO
    have HFr := hid hFr
    clear hO hFr
    by_cases hin : i < z
    · have hlA : Hid ((A.take i).length ≤ 100000) := hid (by rw [List.length_take]; omega)
      have hlB : Hid ((B.take i).length ≤ 100000) := hid (by rw [List.length_take]; omega)
      have hlQ : Hid ((Q.take i).length ≤ 100000) := hid (by rw [List.length_take]; omega)
      have hlS : Hid ((S.take i).length ≤ 100000) := hid (by rw [List.length_take]; omega)
      have hbr : Hid (w7.heap.size ≤ wr.heap.size) := hid HFr.out.size
      have tkA := hid (tA.out i hin)
      have tkB := hid (tB.out i hin)
      have tkQ := hid (tQ.out i hin)
      have tkS := hid (tS.out i hin)
      obtain ⟨_, _, e1, _, _, okX, hc1⟩ := HX.out.parts
      obtain ⟨_, _, e2, _, _, okY, hc2⟩ := HY.out.parts
      obtain ⟨_, _, e3, _, _, okP, hc3⟩ := HP.out.parts
      rw [LX.out] at hc1 e1
      rw [LY.out] at hc2 e2
      rw [LP.out] at hc3 e3
      cases e1
      cases e2
      cases e3
      have q1 : i < lx → ∃ b off, xo = some ⟨b, off, none⟩ ∧ wr.cell? ⟨b, off + i, none⟩ = some (.int .u32 ((X.getD i 0 : Nat) : Int)) := fun h => by obtain ⟨b, off, k1, k2⟩ := hc1 i h; exact ⟨b, off, k1, HFr.out.cell k2⟩
      have q2 : i < ly → ∃ b off, yo = some ⟨b, off, none⟩ ∧ wr.cell? ⟨b, off + i, none⟩ = some (.int .u32 ((Y.getD i 0 : Nat) : Int)) := fun h => by obtain ⟨b, off, k1, k2⟩ := hc2 i h; exact ⟨b, off, k1, HFr.out.cell k2⟩
      have q3 : i < lp → ∃ b off, po = some ⟨b, off, none⟩ ∧ wr.cell? ⟨b, off + i, none⟩ = some (.int .u32 ((P.getD i 0 : Nat) : Int)) := fun h => by obtain ⟨b, off, k1, k2⟩ := hc3 i h; exact ⟨b, off, k1, HFr.out.cell k2⟩
      have o1 : ¬ i < lx → X.getD i 0 = 0 := fun h => by rw [List.getD_eq_getElem?_getD, List.getElem?_eq_none (by rw [LX.out]; omega)]; rfl
      have o2 : ¬ i < ly → Y.getD i 0 = 0 := fun h => by rw [List.getD_eq_getElem?_getD, List.getElem?_eq_none (by rw [LY.out]; omega)]; rfl
      have o3 : ¬ i < lp → P.getD i 0 = 0 := fun h => by rw [List.getD_eq_getElem?_getD, List.getElem?_eq_none (by rw [LP.out]; omega)]; rfl
      have b1 := RX.out i
      have b2 := RY.out i
      have b3 := RP.out i
      obtain ⟨p1, hp1⟩ : ∃ p1, p1 = X.getD i 0 := ⟨_, rfl⟩
      obtain ⟨p2, hp2⟩ : ∃ p2, p2 = Y.getD i 0 := ⟨_, rfl⟩
      obtain ⟨p3, hp3⟩ : ∃ p3, p3 = P.getD i 0 := ⟨_, rfl⟩
      rw [← hp1] at q1 o1 b1 tkA
      rw [← hp2] at q2 o2 b2 tkB
      rw [← hp3] at q3 o3 b3 tkQ
      rw [← hp1, ← hp2] at tkS
      obtain ⟨g, hg⟩ : ∃ g, g = p1 + p2 := ⟨_, rfl⟩
      rw [← hg] at tkS
      obtain ⟨r, hr⟩ : ∃ r, r = g % 998244353 := ⟨_, rfl⟩
      rw [← hr] at tkS
      have d1 : (p1 : Int) + (p2 : Int) = (g : Int) := by omega
      have d2 : (g : Int).tmod 998244353 = (r : Int) := by rw [Int.tmod_eq_emod_of_nonneg (by omega)]; omega
      have d3 : (g : Int) % 998244353 = (r : Int) := by omega
      have d4 : IntKind.u32.wrap (g : Int) = (g : Int) := by rw [IntKind.wrap_u32]; omega
      have d5 : IntKind.u32.wrap (r : Int) = (r : Int) := by rw [IntKind.wrap_u32]; omega
      have d6 : r < 4294967296 := by omega
      have d7 : p1 < 4294967296 := by omega
      have d8 : p2 < 4294967296 := by omega
      have d9 : p3 < 4294967296 := by omega
      have d10 : p1 = 0 → g = p2 ∧ r = p2 := fun h => by omega
      have d11 : p2 = 0 → g = p1 ∧ r = p1 := fun h => by omega
      have d12 : (p1 : Int).tmod 998244353 = (p1 : Int) := by rw [Int.tmod_eq_emod_of_nonneg (by omega)]; omega
      have d13 : (p2 : Int).tmod 998244353 = (p2 : Int) := by rw [Int.tmod_eq_emod_of_nonneg (by omega)]; omega
      have d14 : IntKind.u32.wrap (p1 : Int) = (p1 : Int) := by rw [IntKind.wrap_u32]; omega
      have d15 : IntKind.u32.wrap (p2 : Int) = (p2 : Int) := by rw [IntKind.wrap_u32]; omega
      clear hc1 hc2 hc3 okX okY okP hp1 hp2 hp3 hg hr b1 b2 b3
      by_cases k1 : i < lx
      · by_cases k2 : i < ly
        · by_cases k3 : i < lp
          · clear d10 d11
            obtain ⟨xb, xf, rfl, y1⟩ := q1 k1
            obtain ⟨yb, yf, rfl, y2⟩ := q2 k2
            obtain ⟨pb, pf, rfl, y3⟩ := q3 k3
            clear q1 q2 q3 o1 o2 o3
            go_wp2_with (at_builtin; refine law_grow4 (c := p1) rfl (.tmp 102) (.tmp 104) rfl HO.out HFr.out hbr.out rfl rfl (by omega) hlA.out ?_)
            intro u1 v1 hO1 hF1 hb1
            have HO1 := hid hO1
            have HF1 := hid hF1
            have HB1 := hid hb1
            clear hO1 hF1 hb1
            clear y1
            go_wp2_with (at_builtin; refine law_grow4 (c := p2) rfl (.tmp 106) (.tmp 108) rfl HO1.out HF1.out HB1.out rfl rfl (by omega) hlB.out ?_)
            intro u2 v2 hO1 hF1 hb1
            have HO2 := hid hO1
            have HF2 := hid hF1
            have HB2 := hid hb1
            clear hO1 hF1 hb1 HO1 HF1 HB1
            go_wp2_with (at_builtin; refine law_grow4 (c := p3) rfl (.tmp 110) (.tmp 112) rfl HO2.out HF2.out HB2.out rfl rfl (by omega) hlQ.out ?_)
            intro u3 v3 hO1 hF1 hb1
            have HO3 := hid hO1
            have HF3 := hid hF1
            have HB3 := hid hb1
            clear hO1 hF1 hb1 HO2 HF2 HB2
            go_wp2_with (at_builtin; refine law_grow4 (c := r) rfl (.tmp 114) (.tmp 119) rfl HO3.out HF3.out HB3.out rfl rfl (by omega) hlS.out ?_)
            intro u4 v4 hO1 hF1 hb1
            have HO4 := hid hO1
            have HF4 := hid hF1
            clear hO1 hF1 hb1 HO3 HF3 HB3
            go_wp2_with fail
            go_roundw
            case rel => exact ⟨i + 1, by omega, by go_num, by rw [tkA.out, tkB.out, tkQ.out, tkS.out]; exact HO4.out, HF4.out⟩
            case measure => simp [intOf]; omega
          · exfalso
            omega
        · by_cases k3 : i < lp
          · obtain ⟨xb, xf, rfl, y1⟩ := q1 k1
            have z2 := hid (o2 k2)
            obtain ⟨pb, pf, rfl, y3⟩ := q3 k3
            have zr := hid (d11 z2.out).2
            clear q1 q2 q3 o1 o2 o3
            clear d1 d2 d3 d4 d5 d6
            try clear d10
            try clear d11
            clear d13 d15 d8
            go_wp2_with (at_builtin; refine law_grow4 (c := p1) rfl (.tmp 102) (.tmp 104) rfl HO.out HFr.out hbr.out rfl rfl (by omega) hlA.out ?_)
            intro u1 v1 hO1 hF1 hb1
            have HO1 := hid hO1
            have HF1 := hid hF1
            have HB1 := hid hb1
            clear hO1 hF1 hb1
            clear y1
            go_wp2_with (at_builtin; refine law_grow4 (c := 0) rfl (.tmp 106) (.tmp 108) rfl HO1.out HF1.out HB1.out rfl rfl (by omega) hlB.out ?_)
            intro u2 v2 hO1 hF1 hb1
            have HO2 := hid hO1
            have HF2 := hid hF1
            have HB2 := hid hb1
            clear hO1 hF1 hb1 HO1 HF1 HB1
            go_wp2_with (at_builtin; refine law_grow4 (c := p3) rfl (.tmp 110) (.tmp 112) rfl HO2.out HF2.out HB2.out rfl rfl (by omega) hlQ.out ?_)
            intro u3 v3 hO1 hF1 hb1
            have HO3 := hid hO1
            have HF3 := hid hF1
            have HB3 := hid hb1
            clear hO1 hF1 hb1 HO2 HF2 HB2
            go_wp2_with (at_builtin; refine law_grow4 (c := p1) rfl (.tmp 114) (.tmp 119) rfl HO3.out HF3.out HB3.out rfl rfl (by omega) hlS.out ?_)
            intro u4 v4 hO1 hF1 hb1
            have HO4 := hid hO1
            have HF4 := hid hF1
            clear hO1 hF1 hb1 HO3 HF3 HB3
            go_wp2_with fail
            go_roundw
            case rel => exact ⟨i + 1, by omega, by go_num, by rw [tkA.out, tkB.out, tkQ.out, tkS.out, zr.out, z2.out]; exact HO4.out, HF4.out⟩
            case measure => simp [intOf]; omega
          · exfalso
            omega
      · by_cases k2 : i < ly
        · by_cases k3 : i < lp
          · have z1 := hid (o1 k1)
            obtain ⟨yb, yf, rfl, y2⟩ := q2 k2
            obtain ⟨pb, pf, rfl, y3⟩ := q3 k3
            have zr := hid (d10 z1.out).2
            clear q1 q2 q3 o1 o2 o3
            clear d1 d2 d3 d4 d5 d6
            try clear d10
            try clear d11
            clear d12 d14 d7
            go_wp2_with (at_builtin; refine law_grow4 (c := 0) rfl (.tmp 102) (.tmp 104) rfl HO.out HFr.out hbr.out rfl rfl (by omega) hlA.out ?_)
            intro u1 v1 hO1 hF1 hb1
            have HO1 := hid hO1
            have HF1 := hid hF1
            have HB1 := hid hb1
            clear hO1 hF1 hb1
            go_wp2_with (at_builtin; refine law_grow4 (c := p2) rfl (.tmp 106) (.tmp 108) rfl HO1.out HF1.out HB1.out rfl rfl (by omega) hlB.out ?_)
            intro u2 v2 hO1 hF1 hb1
            have HO2 := hid hO1
            have HF2 := hid hF1
            have HB2 := hid hb1
            clear hO1 hF1 hb1 HO1 HF1 HB1
            go_wp2_with (at_builtin; refine law_grow4 (c := p3) rfl (.tmp 110) (.tmp 112) rfl HO2.out HF2.out HB2.out rfl rfl (by omega) hlQ.out ?_)
            intro u3 v3 hO1 hF1 hb1
            have HO3 := hid hO1
            have HF3 := hid hF1
            have HB3 := hid hb1
            clear hO1 hF1 hb1 HO2 HF2 HB2
            go_wp2_with (at_builtin; refine law_grow4 (c := p2) rfl (.tmp 114) (.tmp 119) rfl HO3.out HF3.out HB3.out rfl rfl (by omega) hlS.out ?_)
            intro u4 v4 hO1 hF1 hb1
            have HO4 := hid hO1
            have HF4 := hid hF1
            clear hO1 hF1 hb1 HO3 HF3 HB3
            go_wp2_with fail
            go_roundw
            case rel => exact ⟨i + 1, by omega, by go_num, by rw [tkA.out, tkB.out, tkQ.out, tkS.out, zr.out, z1.out]; exact HO4.out, HF4.out⟩
            case measure => simp [intOf]; omega
          · exfalso
            omega
        · by_cases k3 : i < lp
          · have z1 := hid (o1 k1)
            have z2 := hid (o2 k2)
            obtain ⟨pb, pf, rfl, y3⟩ := q3 k3
            have zr : Hid (r = 0) := hid ((d10 z1.out).2.trans z2.out)
            clear q1 q2 q3 o1 o2 o3
            clear d1 d2 d3 d4 d5 d6
            try clear d10
            try clear d11
            clear d12 d14 d7
            clear d13 d15 d8
            go_wp2_with (at_builtin; refine law_grow4 (c := 0) rfl (.tmp 102) (.tmp 104) rfl HO.out HFr.out hbr.out rfl rfl (by omega) hlA.out ?_)
            intro u1 v1 hO1 hF1 hb1
            have HO1 := hid hO1
            have HF1 := hid hF1
            have HB1 := hid hb1
            clear hO1 hF1 hb1
            go_wp2_with (at_builtin; refine law_grow4 (c := 0) rfl (.tmp 106) (.tmp 108) rfl HO1.out HF1.out HB1.out rfl rfl (by omega) hlB.out ?_)
            intro u2 v2 hO1 hF1 hb1
            have HO2 := hid hO1
            have HF2 := hid hF1
            have HB2 := hid hb1
            clear hO1 hF1 hb1 HO1 HF1 HB1
            go_wp2_with (at_builtin; refine law_grow4 (c := p3) rfl (.tmp 110) (.tmp 112) rfl HO2.out HF2.out HB2.out rfl rfl (by omega) hlQ.out ?_)
            intro u3 v3 hO1 hF1 hb1
            have HO3 := hid hO1
            have HF3 := hid hF1
            have HB3 := hid hb1
            clear hO1 hF1 hb1 HO2 HF2 HB2
            go_wp2_with (at_builtin; refine law_grow4 (c := 0) rfl (.tmp 114) (.tmp 119) rfl HO3.out HF3.out HB3.out rfl rfl (by omega) hlS.out ?_)
            intro u4 v4 hO1 hF1 hb1
            have HO4 := hid hO1
            have HF4 := hid hF1
            clear hO1 hF1 hb1 HO3 HF3 HB3
            go_wp2_with fail
            go_roundw
            case rel => exact ⟨i + 1, by omega, by go_num, by rw [tkA.out, tkB.out, tkQ.out, tkS.out, zr.out, z1.out, z2.out]; exact HO4.out, HF4.out⟩
            case measure => simp [intOf]; omega
          · have z1 := hid (o1 k1)
            have z2 := hid (o2 k2)
            have z3 := hid (o3 k3)
            have zr : Hid (r = 0) := hid ((d10 z1.out).2.trans z2.out)
            clear q1 q2 q3 o1 o2 o3
            clear d1 d2 d3 d4 d5 d6
            try clear d10
            try clear d11
            clear d12 d14 d7
            clear d13 d15 d8
            clear d9
            go_wp2_with (at_builtin; refine law_grow4 (c := 0) rfl (.tmp 102) (.tmp 104) rfl HO.out HFr.out hbr.out rfl rfl (by omega) hlA.out ?_)
            intro u1 v1 hO1 hF1 hb1
            have HO1 := hid hO1
            have HF1 := hid hF1
            have HB1 := hid hb1
            clear hO1 hF1 hb1
            go_wp2_with (at_builtin; refine law_grow4 (c := 0) rfl (.tmp 106) (.tmp 108) rfl HO1.out HF1.out HB1.out rfl rfl (by omega) hlB.out ?_)
            intro u2 v2 hO1 hF1 hb1
            have HO2 := hid hO1
            have HF2 := hid hF1
            have HB2 := hid hb1
            clear hO1 hF1 hb1 HO1 HF1 HB1
            go_wp2_with (at_builtin; refine law_grow4 (c := 0) rfl (.tmp 110) (.tmp 112) rfl HO2.out HF2.out HB2.out rfl rfl (by omega) hlQ.out ?_)
            intro u3 v3 hO1 hF1 hb1
            have HO3 := hid hO1
            have HF3 := hid hF1
            have HB3 := hid hb1
            clear hO1 hF1 hb1 HO2 HF2 HB2
            go_wp2_with (at_builtin; refine law_grow4 (c := 0) rfl (.tmp 114) (.tmp 119) rfl HO3.out HF3.out HB3.out rfl rfl (by omega) hlS.out ?_)
            intro u4 v4 hO1 hF1 hb1
            have HO4 := hid hO1
            have HF4 := hid hF1
            clear hO1 hF1 hb1 HO3 HF3 HB3
            go_wp2_with fail
            go_roundw
            case rel => exact ⟨i + 1, by omega, by go_num, by rw [tkA.out, tkB.out, tkQ.out, tkS.out, zr.out, z1.out, z2.out, z3.out]; exact HO4.out, HF4.out⟩
            case measure => simp [intOf]; omega
    · obtain rfl : i = z := by omega
      have hA := List.take_of_length_le (Nat.le_of_eq LA.out)
      have hB := List.take_of_length_le (Nat.le_of_eq LB.out)
      have hQ := List.take_of_length_le (Nat.le_of_eq LQ.out)
      have hS := List.take_of_length_le (Nat.le_of_eq LS.out)
      rw [hA, hB, hQ, hS] at HO
      have HU := hid HO.out.1.1.rd
      have HV := hid HO.out.1.2.1.rd
      have HQ := hid HO.out.1.2.2.1.rd
      have HS := hid HO.out.1.2.2.2.rd
      replace HF := hid (HF.out.trans HFr.out)
      clear HO HFr hA hB hQ hS HX HY HP tA tB tQ tS
      go_wp2_with fail
      refine (cT.out HU.out AA.out).mono ?_
      rintro e w8 ⟨u1, rfl, hn, hf⟩
      replace HU := hid (HU.out.fwd hf)
      replace HV := hid (HV.out.fwd hf)
      replace HQ := hid (HQ.out.fwd hf)
      replace HS := hid (HS.out.fwd hf)
      replace HF := hid (HF.out.trans hf)
      have HU2 := hid hn
      clear hn
      clear hf
      go_wp2_with fail
      refine (cT.out HV.out AB.out).mono ?_
      rintro e w9 ⟨u2, rfl, hn, hf⟩
      replace HV := hid (HV.out.fwd hf)
      replace HQ := hid (HQ.out.fwd hf)
      replace HS := hid (HS.out.fwd hf)
      replace HU2 := hid (HU2.out.fwd hf)
      replace HF := hid (HF.out.trans hf)
      have HV2 := hid hn
      clear hn
      clear hf
      go_wp2_with fail
      refine (cT.out HQ.out AQ.out).mono ?_
      rintro e w10 ⟨u3, rfl, hn, hf⟩
      replace HQ := hid (HQ.out.fwd hf)
      replace HS := hid (HS.out.fwd hf)
      replace HU2 := hid (HU2.out.fwd hf)
      replace HV2 := hid (HV2.out.fwd hf)
      replace HF := hid (HF.out.trans hf)
      have HQ2 := hid hn
      clear hn
      clear hf
      go_wp2_with fail
      refine (cT.out HS.out AS.out).mono ?_
      rintro e w11 ⟨u4, rfl, hn, hf⟩
      replace HS := hid (HS.out.fwd hf)
      replace HU2 := hid (HU2.out.fwd hf)
      replace HV2 := hid (HV2.out.fwd hf)
      replace HQ2 := hid (HQ2.out.fwd hf)
      replace HF := hid (HF.out.trans hf)
      have HS2 := hid hn
      clear hn
      clear hf
      obtain ⟨uo, uc, rfl, _, _, _⟩ := HU2.out.parts
      obtain ⟨vo, vc, rfl, _, _, _⟩ := HV2.out.parts
      obtain ⟨wo, wc, rfl, _, _, _⟩ := HQ2.out.parts
      obtain ⟨so, sc, rfl, _, _, _⟩ := HS2.out.parts
      rw [LA2.out] at HU2 ⊢
      rw [LB2.out] at HV2 ⊢
      rw [LQ2.out] at HQ2 ⊢
      rw [LS2.out] at HS2 ⊢
      go_wp2_with fail
      go_loopw [32] (fun jv wr => ∃ j : Nat, j ≤ i ∧ jv = .int .i64 j ∧ Fwd w11 wr) (fun jv _ => i - (intOf jv).toNat)
      case atStart => exact ⟨0, by omega, rfl, Fwd.refl _⟩
      case round =>
        obtain ⟨j, hj, rfl, hFr⟩ := hrel
        have HFr := hid hFr
        clear hFr
        by_cases hjn : j < i
        · obtain ⟨_, _, e1, _, _, ok1, hc1⟩ := HU2.out.parts
          obtain ⟨_, _, e2, _, _, ok2, hc2⟩ := HV2.out.parts
          obtain ⟨_, _, e3, _, _, ok3, hc3⟩ := HQ2.out.parts
          obtain ⟨_, _, e4, _, _, ok4, hc4⟩ := HS2.out.parts
          rw [LA2.out] at hc1 e1
          rw [LB2.out] at hc2 e2
          rw [LQ2.out] at hc3 e3
          rw [LS2.out] at hc4 e4
          cases e1
          cases e2
          cases e3
          cases e4
          obtain ⟨b1, o1, rfl, y1⟩ := hc1 j hjn
          obtain ⟨b2, o2, rfl, y2⟩ := hc2 j hjn
          obtain ⟨b3, o3, rfl, y3⟩ := hc3 j hjn
          obtain ⟨b4, o4, rfl, y4⟩ := hc4 j hjn
          have y1 := HFr.out.cell y1
          have y2 := HFr.out.cell y2
          have y3 := HFr.out.cell y3
          have y4 := HFr.out.cell y4
          obtain ⟨h1, h2, h3, h4⟩ := fin.out j hjn
          have z3 := ok3.getD j
          have z4 := ok4.getD j
          obtain ⟨p1, hp1⟩ : ∃ p1, p1 = A2.getD j 0 := ⟨_, rfl⟩
          obtain ⟨p2, hp2⟩ : ∃ p2, p2 = B2.getD j 0 := ⟨_, rfl⟩
          obtain ⟨p3, hp3⟩ : ∃ p3, p3 = Q2.getD j 0 := ⟨_, rfl⟩
          obtain ⟨p4, hp4⟩ : ∃ p4, p4 = S2.getD j 0 := ⟨_, rfl⟩
          rw [← hp1] at y1 h1 h2 h3
          rw [← hp2] at y2 h1 h2 h4
          rw [← hp3] at y3 h1 z3
          rw [← hp4] at y4 h2 z4
          have m1 : p1 * p2 < 18446744073709551616 := prod_lt (by omega) (by omega)
          obtain ⟨g1, hg1⟩ : ∃ g1, g1 = p1 * p2 := ⟨_, rfl⟩
          obtain ⟨g2, hg2⟩ : ∃ g2, g2 = p1 + p2 := ⟨_, rfl⟩
          have r1 : (p1 : Int) * (p2 : Int) = (g1 : Int) := by rw [hg1]; simp
          have r2 : (p1 : Int) + (p2 : Int) = (g2 : Int) := by rw [hg2]; simp
          rw [← hg1] at h1 m1
          rw [← hg2] at h2
          have s1 : (g1 : Int).tmod 998244353 = (p3 : Int) := by rw [Int.tmod_eq_emod_of_nonneg (by omega)]; omega
          have s2 : (g2 : Int).tmod 998244353 = (p4 : Int) := by rw [Int.tmod_eq_emod_of_nonneg (by omega)]; omega
          have s3 : (g1 : Int) % 998244353 = (p3 : Int) := by omega
          have s4 : (g2 : Int) % 998244353 = (p4 : Int) := by omega
          have v1 : IntKind.u64.wrap (g1 : Int) = (g1 : Int) := by rw [IntKind.wrap_u64]; omega
          have v2 : IntKind.u32.wrap (g2 : Int) = (g2 : Int) := by rw [IntKind.wrap_u32]; omega
          have v3 : IntKind.u64.wrap (p1 : Int) = (p1 : Int) := by rw [IntKind.wrap_u64]; omega
          have v4 : IntKind.u64.wrap (p2 : Int) = (p2 : Int) := by rw [IntKind.wrap_u64]; omega
          have v5 : IntKind.u64.wrap (p3 : Int) = (p3 : Int) := by rw [IntKind.wrap_u64]; omega
          have v6 : IntKind.u32.wrap (p4 : Int) = (p4 : Int) := by rw [IntKind.wrap_u32]; omega
          clear hc1 hc2 hc3 hc4 ok1 ok2 ok3 ok4 hp1 hp2 hp3 hp4 hg1 hg2 h1 h2 h3 h4 m1
          go_wp2_with fail
          go_quiet (fail)
          go_wp2_with fail
          go_roundw
          case rel => exact ⟨j + 1, by omega, by go_num, HFr.out.drewN _⟩
          case measure => simp [intOf]; omega
        · go_wp2_with fail
          go_ret
          exact ⟨rfl, HF.out.trans HFr.out⟩
end Go.Proofs.Ytimlpehgafjkpaa
