/- The walk of NttTurns. -/
import Derived.Test.YtimlpehgafjkpabXNT21
namespace Go.Proofs.Ytimlpehgafjkpab
open Go.RowKit Go.Maps
set_option linter.unusedVariables false
set_option linter.unusedSimpArgs false

theorem rt_all {m : Nat} (hm : m ≤ 10) : rtF false (2 ^ m) ^ (2 ^ m) = 1 := by
  cases m with
  | zero => rw [Nat.pow_zero, rt_one, one_rpow]
  | succ t =>
    have h := rt_half false (t := t) (by omega)
    rw [show (2 : Nat) ^ (t + 1) = 2 ^ t + 2 ^ t by rw [Nat.pow_succ]; omega] at *
    rw [rpow_add, h]
    grind
/-- A list, moved on by one. -/
def turnL (xs : List Nat) : List Nat := (List.range xs.length).map fun i => xs.getD ((i + xs.length - 1) % xs.length) 0
theorem turnL_len (xs : List Nat) : (turnL xs).length = xs.length := by simp [turnL]
theorem turnL_getD (xs : List Nat) (i : Nat) (h : i < xs.length) : (turnL xs).getD i 0 = xs.getD ((i + xs.length - 1) % xs.length) 0 := by simp [turnL, h]
theorem turnL_take (xs : List Nat) (k : Nat) (hk : k < xs.length) : (turnL xs).take (k + 1) = (turnL xs).take k ++ [xs.getD ((k + xs.length - 1) % xs.length) 0] := by
  rw [List.take_succ_eq_append_getElem (by rw [turnL_len]; exact hk)]
  simp [turnL]
theorem allR_turnL {xs : List Nat} (h : allR xs = true) : allR (turnL xs) = true := by
  have hg := allR_get h
  unfold allR
  rw [List.all_eq_true]
  intro x hx
  unfold turnL at hx
  obtain ⟨i, _, rfl⟩ := List.mem_map.1 hx
  exact decide_eq_true (hg _)
/-- Its transform is that times the powers of the root. -/
theorem dft_turn (xs : List Nat) (w : F) (i : Nat) (hn : 0 < xs.length) (hw : w ^ xs.length = 1) : dft (fF (turnL xs)) w xs.length i = dft (fF xs) w xs.length i * w ^ i := by
  obtain ⟨n, hN⟩ : ∃ n, xs.length = n + 1 := ⟨xs.length - 1, by omega⟩
  have h0 : fF (turnL xs) 0 = fF xs n := by
    show cF ((turnL xs).getD 0 0) = cF (xs.getD n 0)
    rw [turnL_getD _ _ hn, hN, show (0 + (n + 1) - 1) % (n + 1) = n by rw [show 0 + (n + 1) - 1 = n by omega]; exact Nat.mod_eq_of_lt (by omega)]
  have h1 : ∀ j, j < n → fF (turnL xs) (j + 1) = fF xs j := fun j hj => by
    show cF ((turnL xs).getD (j + 1) 0) = cF (xs.getD j 0)
    rw [turnL_getD _ _ (by omega), hN, show j + 1 + (n + 1) - 1 = j + (n + 1) by omega, Nat.add_mod_right, Nat.mod_eq_of_lt (by omega)]
  rw [hN] at hw ⊢
  unfold dft
  rw [sm_head, h0, Nat.zero_mul, rpow_zero]
  show _ = (sm (fun j => fF xs j * w ^ (j * i)) n + fF xs n * w ^ (n * i)) * w ^ i
  rw [sm_congr (g := fun j => w ^ i * (fF xs j * w ^ (j * i))) (fun j hj => by rw [h1 j hj, Nat.add_mul, Nat.one_mul, rpow_add]; grind), sm_mul]
  have h2 : w ^ (n * i) * w ^ i = 1 := by rw [← rpow_add, show n * i + i = (n + 1) * i by rw [Nat.add_mul, Nat.one_mul], rpow_mul, hw, one_rpow]
  grind
/-- Transformed twice it is turned about, so many times. -/
theorem dft_twice (l : Nat → F) (m : Nat) (hm : m ≤ 10) (i : Nat) (hi : i < 2 ^ m) : dft (fun j => dft l (rtF false (2 ^ m)) (2 ^ m) j) (rtF false (2 ^ m)) (2 ^ m) i = l ((2 ^ m - i) % 2 ^ m) * cF (2 ^ m) := by
  have hp0 := Nat.two_pow_pos m
  have hp : 2 ^ m ≤ 2 ^ 10 := Nat.pow_le_pow_right (by omega) hm
  have hr := rt_all hm
  have hu := rt_undo (2 ^ m)
  have hlt : (2 ^ m - i) % 2 ^ m < 2 ^ m := Nat.mod_lt _ hp0
  have h1 := dft_undo l m hm _ hlt
  have h2 := sh_undo (2 ^ m) hp0 (by omega)
  have h3 : dft (fun j => dft l (rtF false (2 ^ m)) (2 ^ m) j) (rtF false (2 ^ m)) (2 ^ m) i = dft (fun j => dft l (rtF false (2 ^ m)) (2 ^ m) j) (rtF true (2 ^ m)) (2 ^ m) ((2 ^ m - i) % 2 ^ m) := by
    unfold dft
    refine sm_congr fun k hk => ?_
    have key : rtF false (2 ^ m) ^ (k * i) = rtF true (2 ^ m) ^ (k * ((2 ^ m - i) % 2 ^ m)) := by
      generalize 2 ^ m = n at *
      have hs : ∃ c, i + (n - i) % n = n * c := by
        by_cases h0 : i = 0
        · subst h0; exact ⟨0, by rw [Nat.sub_zero, Nat.mod_self]; rfl⟩
        · exact ⟨1, by rw [Nat.mod_eq_of_lt (by omega)]; omega⟩
      obtain ⟨c, hc⟩ := hs
      generalize (n - i) % n = i' at *
      have e1 : rtF true n ^ (k * i') * rtF false n ^ (k * i') = 1 := by rw [← mul_rpow, hu, one_rpow]
      have e2 : rtF false n ^ (k * i) * rtF false n ^ (k * i') = 1 := by rw [← rpow_add, ← Nat.mul_add, hc, show k * (n * c) = n * (c * k) by grind, rpow_mul, hr, one_rpow]
      generalize rtF true n ^ (k * i') = a at *
      generalize rtF false n ^ (k * i') = b at *
      generalize rtF false n ^ (k * i) = d at *
      grind
    rw [key]
  rw [h3]
  generalize dft _ (rtF true (2 ^ m)) _ _ = a at *
  generalize shF true (2 ^ m) = s at *
  generalize l _ = b at *
  generalize cF (2 ^ m) = d at *
  grind

set_option maxHeartbeats 8000000 in
set_option maxRecDepth 20000 in
theorem nttTurns_walk {w : World} {l : Value} {k : Int} {xl : List Nat} (hl : Arg w l xl) (hk : (Lit.int .i64 k).wf = true) :
    Calls Try.prog 3 #[l, .int .i64 k] w fun e w' => e = .returned (.bool true) ∧ Below w.heap.size w w' := by
  obtain ⟨k1, k2⟩ := bounds_i64 hk
  have HL := hid hl
  have hm7 : (k % ((7 : Nat) : Int)).toNat < 7 := by omega
  have cM : Hid (∀ w', Calls Try.prog 6 #[.int .i64 k, .int .i64 7] w' fun e w'' => e = .returned (.int .i64 ((k % ((7 : Nat) : Int)).toNat : Nat)) ∧ w'' = w') := hid fun w' => within8 w' k 7 (by omega) (by omega) k1 k2
  obtain ⟨m, hm⟩ : ∃ m, m = (k % ((7 : Nat) : Int)).toNat := ⟨_, rfl⟩
  rw [← hm] at hm7 cM
  have hp2 : 2 ^ m ≤ 2 ^ 6 := Nat.pow_le_pow_right (by omega) (by omega)
  have hp0 := Nat.two_pow_pos m
  have HW := hid (pow2_wrap (m := m) (by omega))
  have hpw := isPow_pow (m := m) (by omega)
  have hra := rt_all (m := m) (by omega)
  have htw := fun (l : Nat → F) i hi => dft_twice l m (by omega) i hi
  clear hm hk hl
  obtain ⟨n, hn⟩ : ∃ n, n = 2 ^ m := ⟨_, rfl⟩
  rw [← hn] at hp2 hp0 HW hpw hra
  rw [← hn] at htw
  clear hn
  obtain ⟨V, hV⟩ : ∃ V, V = rowL xl n := ⟨_, rfl⟩
  obtain ⟨S, hS⟩ : ∃ S, S = turnL V := ⟨_, rfl⟩
  obtain ⟨T, hT⟩ : ∃ T, T = trF false V := ⟨_, rfl⟩
  obtain ⟨U, hU⟩ : ∃ U, U = trF false S := ⟨_, rfl⟩
  obtain ⟨D, hD⟩ : ∃ D, D = trF false T := ⟨_, rfl⟩
  have lV : V.length = n := by rw [hV, rowL_len]
  have rV : allR V = true := by rw [hV]; exact rowL_rem _ _ (by omega)
  have lS : S.length = n := by rw [hS, turnL_len, lV]
  have rS : allR S = true := by rw [hS]; exact allR_turnL rV
  have lT : T.length = n := by rw [hT, trF_len, lV]
  have rT : allR T = true := by rw [hT]; exact allR_trF _ _
  have lU : U.length = n := by rw [hU, trF_len, lS]
  have lD : D.length = n := by rw [hD, trF_len, lT]
  have aT : trA false V = (T, 0) := by rw [trA_good (by rw [lV]; exact hpw) rV, hT]
  have aU : trA false S = (U, 0) := by rw [trA_good (by rw [lS]; exact hpw) rS, hU]
  have aD : trA false T = (D, 0) := by rw [trA_good (by rw [lT]; exact hpw) rT, hD]
  have cRow : Hid (∀ {w' : World}, Arg w' l xl → Calls Try.prog 7 #[l, .int .i64 (n : Int)] w' fun e w'' => ∃ u, e = .returned u ∧ Rd w'' u V ∧ Fwd w' w'') := hid fun h => by rw [hV]; exact Row_any _ h (by omega)
  have cT : Hid (∀ {w' : World} {v : Value} {xs ys : List Nat}, Rd w' v xs → trA false xs = (ys, 0) → Calls Try.prog 8 #[v, .bool false] w' fun e w'' => ∃ u, e = .returned (.tuple #[u, .int .i64 0]) ∧ Rd w'' u ys ∧ Fwd w' w'') := hid fun h h2 => by have := Transform_any false h; rw [h2] at this; exact this
  have AT := hid aT
  have AU := hid aU
  have AD := hid aD
  have htake : Hid (∀ i, i < n → S.take (i + 1) = S.take i ++ [V.getD ((i + n - 1) % n) 0]) := hid fun i hi => by
    have := turnL_take V i (by rw [lV]; exact hi)
    rw [lV, ← hS] at this
    exact this
  obtain ⟨d, hd⟩ : ∃ d, d = 998244352 / n := ⟨_, rfl⟩
  have hdl : d ≤ 998244352 := by rw [hd]; exact Nat.div_le_self _ _
  have hdi : (998244352 : Int) / (n : Int) = (d : Int) := by rw [hd]; simp
  have htd : (998244352 : Int).tdiv (n : Int) = (d : Int) := by rw [Int.tdiv_eq_ediv_of_nonneg (by omega), hdi]
  obtain ⟨R, hR⟩ : ∃ R, R = vF (rtF false n) := ⟨_, rfl⟩
  have hRl : R < 998244353 := by rw [hR]; exact vF_lt _
  have cR : Hid (∀ w', Calls Try.prog 9 #[.int .u32 3, .int .i64 (d : Int)] w' fun e w'' => e = .returned (.int .u32 (R : Int)) ∧ w'' = w') := hid fun w' => by
    have := Pow8_pos w' 3 d (by omega) (by omega)
    rw [hR]
    unfold rtF
    rw [if_neg (by simp), ← hd]
    exact this
  have cQ : Hid (∀ w' (i : Nat), i < 1000 → Calls Try.prog 9 #[.int .u32 (R : Int), .int .i64 (i : Int)] w' fun e w'' => e = .returned (.int .u32 (vF (rtF false n ^ i) : Nat)) ∧ w'' = w') := hid fun w' i hi => by
    have := Pow8_pos w' R i (by omega) (by omega)
    rw [hR, cF_v] at this
    rw [hR]
    exact this
  have hfst : Hid (∀ i, i < n → T.getD i 0 * vF (rtF false n ^ i) % 998244353 = U.getD i 0) := hid fun i hi => by
    rw [hU, trF_getD _ _ _ (by rw [lS]; exact hi), shF_false, lS]
    refine vF_of (Nat.mod_lt _ (by omega)) ?_
    rw [cF_mod, cF_mul, cF_v, hT, trF_getD _ _ _ (by rw [lV]; exact hi), cF_v, shF_false, lV]
    have h := dft_turn V (rtF false n) i (by rw [lV]; exact hp0) (by rw [lV]; exact hra)
    rw [lV, ← hS] at h
    rw [h]
    grind
  have hsnd : Hid (∀ i, i < n → V.getD ((n - i) % n) 0 * n % 998244353 = D.getD i 0) := hid fun i hi => by
    rw [hD, trF_getD _ _ _ (by rw [lT]; exact hi), shF_false, lT]
    refine vF_of (Nat.mod_lt _ (by omega)) ?_
    rw [cF_mod, cF_mul]
    have h := htw (fF V) i hi
    have h2 : dft (fF T) (rtF false n) n i = dft (fun j => dft (fF V) (rtF false n) n j) (rtF false n) n i := by
      refine dft_congr fun j hj => ?_
      show cF (T.getD j 0) = _
      rw [hT, trF_getD _ _ _ (by rw [lV]; exact hj), cF_v, shF_false, lV]
      grind
    rw [h2, h]
    show fF V ((n - i) % n) * _ = _
    grind
  have RV := hid (allR_get rV)
  have LV := hid lV
  have LS := hid lS
  have LT := hid lT
  have LU := hid lU
  have LD := hid lD
  have hnz : (n : Int) ≠ 0 := by omega
  have hn64 : n ≤ 64 := by omega
  clear hV hS hT hU hD lV rV lS rS lT rT lU lD aT aU aD hpw hra htw hd hR hp2
  go_enter Try.func3, Try.ntmps3
  go_wp2_with fail
  refine (known8_any _).mono ?_
  rintro e w1 ⟨rfl, hf⟩
  have HF := hid hf
  replace HL := hid (HL.out.fwd8 hf)
  clear hf
  go_wp2_with fail
  refine (cM.out _).mono ?_
  rintro e w2 ⟨rfl, hww⟩
  rw [hww]
  clear hww w2
  go_wp2_with fail
  rw [HW.out]
  refine (cRow.out HL.out).mono ?_
  rintro e w3 ⟨u0, rfl, hn, hf⟩
  replace HL := hid (HL.out.fwd8 hf)
  replace HF := hid (HF.out.trans hf)
  have HV := hid hn
  clear hn
  clear hf
  obtain ⟨vo, vc, rfl, _, _, _⟩ := HV.out.parts
  rw [LV.out] at HV ⊢
  clear HL
  go_wp2_with fail
  go_loopw [7, 8] (fun ov iv wr => ∃ i : Nat, i ≤ n ∧ iv = .int .i64 i ∧ Own wr w3.heap.size ov (S.take i) ∧ Fwd w3 wr) (fun _ iv _ => n - (intOf iv).toNat)
  case atStart => exact ⟨0, by omega, rfl, Own.nil _ _, Fwd.refl _⟩
  case round =>
    obtain ⟨i, hi, rfl, hO, hFr⟩ := hrel
    obtain ⟨oo, oc, rfl, _, _, _⟩ := hO.parts
    have HO := hid hO
    have HFr := hid hFr
    clear hO hFr
    have hlk : (S.take i).length = i := by rw [List.length_take, LS.out]; omega
    rw [hlk] at HO ⊢
    by_cases hin : i < n
    · obtain ⟨_, _, ev, _, _, okV, hc⟩ := HV.out.parts
      rw [LV.out] at hc ev
      cases ev
      obtain ⟨c1, hc1⟩ : ∃ c1, c1 = i + n := ⟨_, rfl⟩
      obtain ⟨c2, hc2⟩ : ∃ c2, c2 = i + n - 1 := ⟨_, rfl⟩
      obtain ⟨c3, hc3⟩ : ∃ c3, c3 = (i + n - 1) % n := ⟨_, rfl⟩
      have j1 : (i : Int) + (n : Int) = (c1 : Int) := by omega
      have j2 : (c1 : Int) - 1 = (c2 : Int) := by omega
      have j3 : (c2 : Int).tmod (n : Int) = (c3 : Int) := by rw [Int.tmod_eq_emod_of_nonneg (by omega), hc3, ← hc2]; simp
      have j4 : (c2 : Int) % (n : Int) = (c3 : Int) := by rw [hc3, ← hc2]; simp
      have l1 : c1 < 1024 := by omega
      have l2 : c2 < 1024 := by omega
      have l3 : c3 < n := by rw [hc3]; exact Nat.mod_lt _ hp0
      have htk := hid (htake.out i hin)
      rw [← hc3] at htk
      obtain ⟨b, off, rfl, hcell⟩ := hc c3 l3
      have hcell := HFr.out.cell hcell
      have hxl := okV.getD c3
      obtain ⟨x, hx⟩ : ∃ x, x = V.getD c3 0 := ⟨_, rfl⟩
      rw [← hx] at hcell hxl htk
      obtain ⟨ha, hb, hcc⟩ := HO.out.more HFr.out.size x
      have hlz : Hid ((S.take i).length ≤ 1000000000) := hid (by rw [hlk]; omega)
      have HF2 := hid (HFr.out.alloc (.cells #[.int .u32 (x : Int)] 27))
      clear hc hx hc1 hc2 hc3 okV
      go_wp2_with (at_builtin; refine law_append1 rfl (.tmp 31) (.tmp 41) rfl w3.heap.size _ (S.take i) rfl ha.out _ x 1 rfl hxl hb.out hlz.out hcc.out ?_)
      intro v' w6 hO6 hB6
      have HO6 := hid hO6
      have HF6 : Hid (Fwd w3 w6) := hid (Below.trans HF2.out hB6)
      clear hO6 hB6
      go_wp2_with fail
      go_roundw
      case rel => exact ⟨i + 1, by omega, by go_num, by rw [htk.out]; exact HO6.out, HF6.out⟩
      case measure => simp [intOf]; omega
    · obtain rfl : i = n := by omega
      have hts : S.take i = S := by rw [← LS.out, List.take_length]
      rw [hts] at HO
      have HS := hid HO.out.rd
      replace HF := hid (HF.out.trans HFr.out)
      replace HV := hid (HV.out.fwd HFr.out)
      clear HO HFr hts hlk
      go_wp2_with fail
      refine (cT.out HV.out AT.out).mono ?_
      rintro e w4 ⟨u1, rfl, hn, hf⟩
      replace HV := hid (HV.out.fwd hf)
      replace HS := hid (HS.out.fwd hf)
      replace HF := hid (HF.out.trans hf)
      have HT := hid hn
      clear hn
      clear hf
      go_wp2_with fail
      refine (cT.out HS.out AU.out).mono ?_
      rintro e w5 ⟨u2, rfl, hn, hf⟩
      replace HV := hid (HV.out.fwd hf)
      replace HS := hid (HS.out.fwd hf)
      replace HT := hid (HT.out.fwd hf)
      replace HF := hid (HF.out.trans hf)
      have HU := hid hn
      clear hn
      clear hf
      go_wp2_with fail
      refine (cT.out HT.out AD.out).mono ?_
      rintro e w6 ⟨u3, rfl, hn, hf⟩
      replace HV := hid (HV.out.fwd hf)
      replace HT := hid (HT.out.fwd hf)
      replace HU := hid (HU.out.fwd hf)
      replace HF := hid (HF.out.trans hf)
      have HD := hid hn
      clear hn
      clear hf
      obtain ⟨to, tc, rfl, _, _, _⟩ := HT.out.parts
      obtain ⟨uo, uc, rfl, _, _, _⟩ := HU.out.parts
      obtain ⟨do', dc, rfl, _, _, _⟩ := HD.out.parts
      rw [LT.out] at HT ⊢
      rw [LU.out] at HU ⊢
      rw [LD.out] at HD ⊢
      go_wp2_with fail
      refine (cR.out _).mono ?_
      rintro e w11 ⟨rfl, hww⟩
      rw [hww]
      clear hww w11
      go_wp2_with fail
      go_loopw [16] (fun jv wr => ∃ j : Nat, j ≤ i ∧ jv = .int .i64 j ∧ Fwd w6 wr) (fun jv _ => i - (intOf jv).toNat)
      case atStart => exact ⟨0, by omega, rfl, Fwd.refl _⟩
      case round =>
        obtain ⟨j, hj, rfl, hFr⟩ := hrel
        have HFr := hid hFr
        clear hFr
        by_cases hjn : j < i
        · obtain ⟨_, _, e1, _, _, okV, hc1⟩ := HV.out.parts
          obtain ⟨_, _, e2, _, _, okT, hc2⟩ := HT.out.parts
          obtain ⟨_, _, e3, _, _, okU, hc3⟩ := HU.out.parts
          obtain ⟨_, _, e4, _, _, okD, hc4⟩ := HD.out.parts
          rw [LV.out] at hc1 e1
          rw [LT.out] at hc2 e2
          rw [LU.out] at hc3 e3
          rw [LD.out] at hc4 e4
          cases e1
          cases e2
          cases e3
          cases e4
          obtain ⟨a1, ha1⟩ : ∃ a1, a1 = i - j := ⟨_, rfl⟩
          obtain ⟨a2, ha2⟩ : ∃ a2, a2 = (i - j) % i := ⟨_, rfl⟩
          have q1 : (i : Int) - (j : Int) = (a1 : Int) := by omega
          have q2 : (a1 : Int).tmod (i : Int) = (a2 : Int) := by rw [Int.tmod_eq_emod_of_nonneg (by omega), ha2, ← ha1]; simp
          have q3 : (a1 : Int) % (i : Int) = (a2 : Int) := by rw [ha2, ← ha1]; simp
          have l1 : a1 < 1024 := by omega
          have l2 : a2 < i := by rw [ha2]; exact Nat.mod_lt _ hp0
          have l3 : a2 < 1024 := by omega
          obtain ⟨b1, o1, rfl, y1⟩ := hc1 a2 l2
          obtain ⟨b2, o2, rfl, y2⟩ := hc2 j hjn
          obtain ⟨b3, o3, rfl, y3⟩ := hc3 j hjn
          obtain ⟨b4, o4, rfl, y4⟩ := hc4 j hjn
          have y1 := HFr.out.cell y1
          have y2 := HFr.out.cell y2
          have y3 := HFr.out.cell y3
          have y4 := HFr.out.cell y4
          have h1 := hfst.out j hjn
          have h2 := hsnd.out j hjn
          rw [← ha2] at h2
          have z1 := okV.getD a2
          have z2 := okT.getD j
          have z3 := okU.getD j
          have z4 := okD.getD j
          have z5 := vF_lt (rtF false i ^ j)
          have cq := fun w' => cQ.out w' j (by omega)
          obtain ⟨p1, hp1⟩ : ∃ p1, p1 = V.getD a2 0 := ⟨_, rfl⟩
          obtain ⟨p2, hp2⟩ : ∃ p2, p2 = T.getD j 0 := ⟨_, rfl⟩
          obtain ⟨p3, hp3⟩ : ∃ p3, p3 = U.getD j 0 := ⟨_, rfl⟩
          obtain ⟨p4, hp4⟩ : ∃ p4, p4 = D.getD j 0 := ⟨_, rfl⟩
          obtain ⟨p5, hp5⟩ : ∃ p5, p5 = vF (rtF false i ^ j) := ⟨_, rfl⟩
          rw [← hp1] at y1 h2 z1
          rw [← hp2] at y2 h1 z2
          rw [← hp3] at y3 h1 z3
          rw [← hp4] at y4 h2 z4
          rw [← hp5] at h1 z5 cq
          have cq := hid cq
          have m1 : p2 * p5 < 18446744073709551616 := prod_lt z2 (by omega)
          have m2 : p1 * i < 18446744073709551616 := prod_lt z1 (by omega)
          obtain ⟨g1, hg1⟩ : ∃ g1, g1 = p2 * p5 := ⟨_, rfl⟩
          obtain ⟨g2, hg2⟩ : ∃ g2, g2 = p1 * i := ⟨_, rfl⟩
          have r1 : (p2 : Int) * (p5 : Int) = (g1 : Int) := by rw [hg1]; simp
          have r2 : (p1 : Int) * (i : Int) = (g2 : Int) := by rw [hg2]; simp
          rw [← hg1] at h1 m1
          rw [← hg2] at h2 m2
          have s1 : (g1 : Int).tmod 998244353 = (p3 : Int) := by rw [Int.tmod_eq_emod_of_nonneg (by omega)]; omega
          have s2 : (g2 : Int).tmod 998244353 = (p4 : Int) := by rw [Int.tmod_eq_emod_of_nonneg (by omega)]; omega
          have s3 : (g1 : Int) % 998244353 = (p3 : Int) := by omega
          have s4 : (g2 : Int) % 998244353 = (p4 : Int) := by omega
          have v1 : IntKind.u64.wrap (g1 : Int) = (g1 : Int) := by rw [IntKind.wrap_u64]; omega
          have v2 : IntKind.u64.wrap (g2 : Int) = (g2 : Int) := by rw [IntKind.wrap_u64]; omega
          have v3 : IntKind.i64.wrap (a1 : Int) = (a1 : Int) := by rw [IntKind.wrap_i64]; omega
          have v4 : IntKind.i64.wrap (a2 : Int) = (a2 : Int) := by rw [IntKind.wrap_i64]; omega
          have v5 : IntKind.u64.wrap (p1 : Int) = (p1 : Int) := by rw [IntKind.wrap_u64]; omega
          have v6 : IntKind.u64.wrap (p2 : Int) = (p2 : Int) := by rw [IntKind.wrap_u64]; omega
          have v7 : IntKind.u64.wrap (p3 : Int) = (p3 : Int) := by rw [IntKind.wrap_u64]; omega
          have v8 : IntKind.u64.wrap (p4 : Int) = (p4 : Int) := by rw [IntKind.wrap_u64]; omega
          have v9 : IntKind.u64.wrap (p5 : Int) = (p5 : Int) := by rw [IntKind.wrap_u64]; omega
          have v10 : IntKind.u64.wrap (i : Int) = (i : Int) := by rw [IntKind.wrap_u64]; omega
          clear hc1 hc2 hc3 hc4 okV okT okU okD hp1 hp2 hp3 hp4 hp5 hg1 hg2 ha1 ha2 h1 h2 m1 m2 hdi htd
          go_wp2_with fail
          go_quiet ((go_at_call 9; exact Calls.quiet_of_same (cq.out _)))
          go_wp2_with fail
          go_roundw
          case rel => exact ⟨j + 1, by omega, by go_num, HFr.out.drewN _⟩
          case measure => simp [intOf]; omega
        · go_wp2_with fail
          go_ret
          exact ⟨rfl, HF.out.trans HFr.out⟩
end Go.Proofs.Ytimlpehgafjkpab
