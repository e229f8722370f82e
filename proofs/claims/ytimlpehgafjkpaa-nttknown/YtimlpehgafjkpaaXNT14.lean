/- Contract: the second telling's Transform. -/
import Derived.Test.YtimlpehgafjkpaaXNT13
namespace Go.Proofs.Ytimlpehgafjkpaa
open Go.RowKit Go.Maps
set_option linter.unusedVariables false
set_option linter.unusedSimpArgs false

def powOk : Bool := (List.range 1025).all fun n => n == 0 || ((bits .and .i64 (n : Int) ((n : Int) - 1) == 0) == isPow n)
theorem powOk_true : powOk = true := by decide +kernel
theorem pow_bits {n : Nat} (h0 : 0 < n) (hn : n ≤ 1024) : (bits .and .i64 (n : Int) ((n : Int) - 1) == 0) = isPow n := by
  have h := powOk_true
  unfold powOk at h
  rw [List.all_eq_true] at h
  have h1 := h n (List.mem_range.2 (by omega))
  rw [Bool.or_eq_true] at h1
  rcases h1 with h1 | h1
  · simp at h1; omega
  · exact eq_of_beq h1

/-- What is wanted for one number more behind an own row. -/
theorem Own.more {w : World} {base : Nat} {v : Value} {zs : List Nat} (hO : Own w base v zs) (hb : base ≤ w.heap.size) (c : Nat) :
    Hid (Own (w.alloc (.cells #[.int .u32 (c : Int)] 22)) base v zs) ∧ Hid ((w.alloc (.cells #[.int .u32 (c : Int)] 22)).cell? ⟨w.heap.size, 0, none⟩ = some (.int .u32 (c : Int))) ∧ Hid (base ≤ (w.alloc (.cells #[.int .u32 (c : Int)] 22)).heap.size) := by
  refine ⟨hid (hO.alloc _), hid ?_, hid (by simp; omega)⟩
  rw [cell_of_row _ w.heap.size 0 _ _ _ (heap_alloc_new w _)]; rfl

theorem isPow_pos {n : Nat} (h : isPow n = true) : 0 < n ∧ n ≤ 1024 := by
  obtain ⟨t, ht, e⟩ := isPow_iff.1 h
  have hp : 2 ^ t ≤ 2 ^ 10 := Nat.pow_le_pow_right (by omega) (by omega)
  have := Nat.two_pow_pos t
  omega
theorem trF_take (back : Bool) (xs : List Nat) (k : Nat) (hk : k < xs.length) : (trF back xs).take (k + 1) = (trF back xs).take k ++ [vF (dft (fF xs) (rtF back xs.length) xs.length k * shF back xs.length)] := by
  rw [List.take_succ_eq_append_getElem (by rw [trF_len]; exact hk)]
  simp [trF]

set_option maxHeartbeats 1000000 in
theorem Transform8_no {w : World} {v : Value} {xs : List Nat} (back : Bool) (hv : Rd w v xs) (hP : ¬ isPow xs.length = true) :
    Calls Try.prog 15 #[v, .bool back] w fun e w' => e = .returned (.tuple #[.slice none 0 0, .int .i64 3]) ∧ Fwd w w' := by
  obtain ⟨ao, cap, rfl, hcl, hcm, _, _⟩ := hv.parts
  unfold maxLen at hcm
  clear hv
  by_cases h0 : xs.length = 0
  · rw [h0]
    go_enter Try.func15, Try.ntmps15
    go_wp2_with fail
    go_returns
    exact ⟨rfl, Fwd.refl w⟩
  · by_cases h1 : 1024 < xs.length
    · have i0 : ((xs.length : Int) == 0) = false := beq_eq_false_iff_ne.2 (by omega)
      have i1 : decide (1024 < (xs.length : Int)) = true := decide_eq_true (by omega)
      go_enter Try.func15, Try.ntmps15
      go_wp2_with fail
      go_returns
      exact ⟨rfl, Fwd.refl w⟩
    · have i0 : ((xs.length : Int) == 0) = false := beq_eq_false_iff_ne.2 (by omega)
      have i1 : decide (1024 < (xs.length : Int)) = false := decide_eq_false (by omega)
      have i2 : (bits .and .i64 (xs.length : Int) ((xs.length : Int) - 1) != 0) = true := by unfold bne; rw [pow_bits (by omega) (by omega)]; simpa using hP
      go_enter Try.func15, Try.ntmps15
      go_wp2_with fail
      go_returns
      exact ⟨rfl, Fwd.refl w⟩

/-- The sum so far of a row. -/
def SInn (xs : List Nat) (r : F) (k : Nat) (j S q : Nat) : Prop := S ≤ j * 998244353 ∧ q < 998244353 ∧ cF S = sm (fun i => fF xs i * r ^ (i * k)) j ∧ cF q = r ^ (j * k)
theorem SInn.start (xs : List Nat) (r : F) (k : Nat) : SInn xs r k 0 0 1 := ⟨by omega, by omega, rfl, by rw [Nat.zero_mul, rpow_zero]; rfl⟩
theorem SInn.step {xs : List Nat} {r : F} {k j S q p : Nat} (h : SInn xs r k j S q) (hp : cF p = r ^ k) : SInn xs r k (j + 1) (S + xs.getD j 0 * q % 998244353) (q * p % 998244353) := by
  obtain ⟨h1, h2, h3, h4⟩ := h
  have hm : xs.getD j 0 * q % 998244353 < 998244353 := Nat.mod_lt _ (by omega)
  refine ⟨?_, Nat.mod_lt _ (by omega), ?_, ?_⟩
  · rw [Nat.succ_mul]
    exact Nat.add_le_add h1 (Nat.le_of_lt hm)
  · rw [cF_add, cF_mod, cF_mul, h3, h4]; rfl
  · rw [cF_mod, cF_mul, h4, hp, ← rpow_add, Nat.succ_mul]

theorem rt_of (back : Bool) (n : Nat) : rtF back n = if back then ivF (cF 3 ^ (998244352 / n)) else cF 3 ^ (998244352 / n) := by
  unfold rtF
  cases back with
  | false => rw [if_neg (by simp), if_neg (by simp)]
  | true =>
    rw [if_pos rfl, if_pos rfl]
    unfold ivF
    rw [rpow_comm]

set_option maxHeartbeats 4000000 in
set_option maxRecDepth 20000 in
theorem Transform8_yes {w : World} {v : Value} {xs : List Nat} (back : Bool) (hv : Rd w v xs) (hP : isPow xs.length = true) (hR : allR xs = true) :
    Calls Try.prog 15 #[v, .bool back] w fun e w' => ∃ u, e = .returned (.tuple #[u, .int .i64 0]) ∧ Rd w' u (trF back xs) ∧ Fwd w w' := by
  obtain ⟨h0, h1⟩ := isPow_pos hP
  have hsm := hid (small8_any hv (by omega))
  obtain ⟨ao, cap, rfl, hcl, hcm, hok, hcell⟩ := hv.parts
  unfold maxLen at hcm
  have HV := hid hv
  have HC := hid hcell
  have HOK := hid hok
  clear hv hcell hok
  have hbt := hid (pow_bits h0 h1)
  have hto := hid (rt_of back xs.length)
  have htk := hid (trF_take back xs)
  have htl := hid (trF_len back xs)
  obtain ⟨n, hn⟩ : ∃ n, n = xs.length := ⟨_, rfl⟩
  rw [← hn] at h0 h1 hcl hbt hto htk htl
  rw [hR] at hsm
  obtain ⟨d, hd⟩ : ∃ d, d = 998244352 / n := ⟨_, rfl⟩
  have hdl : d ≤ 998244352 := by rw [hd]; exact Nat.div_le_self _ _
  have hdi : (998244352 : Int) / (n : Int) = (d : Int) := by rw [hd]; simp
  have htd : (998244352 : Int).tdiv (n : Int) = (d : Int) := by rw [Int.tdiv_eq_ediv_of_nonneg (by omega), hdi]
  have hnz : (n : Int) ≠ 0 := by omega
  rw [← hd] at hto
  have i0 : ((n : Int) == 0) = false := beq_eq_false_iff_ne.2 (by omega)
  have i1 : decide (1024 < (n : Int)) = false := decide_eq_false (by omega)
  have i2 : (bits .and .i64 (n : Int) ((n : Int) - 1) != 0) = false := by unfold bne; rw [hbt.out]; rw [hn, hP]; rfl
  have HN := hid hn
  obtain ⟨x, hx⟩ : ∃ x, x = vF (rtF back n) := ⟨_, rfl⟩
  obtain ⟨y, hy⟩ : ∃ y, y = vF (shF back n) := ⟨_, rfl⟩
  have hxl : x < 998244353 := by rw [hx]; exact vF_lt _
  have hyl : y < 998244353 := by rw [hy]; exact vF_lt _
  have hcx : Hid (cF x = rtF back n) := hid (by rw [hx, cF_v])
  have hcy : Hid (cF y = shF back n) := hid (by rw [hy, cF_v])
  have hx3 : vF (cF 3 ^ d) < 998244353 := vF_lt _
  have HX : Hid (vF (if back then ivF (cF 3 ^ d) else cF 3 ^ d) = x) := hid (by rw [hx, hto.out])
  have HY : Hid (vF (if back then ivF (cF n) else 1) = y) := hid hy.symm
  rw [← hn] at hsm HC
  have HN := hid hn
  clear hn hd hbt hx hy hto
  cases back with
  | true =>
    rw [if_pos rfl] at HX HY
    go_enter Try.func15, Try.ntmps15
    rw [← HN.out]
    go_wp2_with fail
    refine hsm.out.mono ?_
    rintro e w1 ⟨rfl, hww⟩
    rw [hww]
    clear hww w1
    go_wp2_with fail
    refine (Pow8_pos _ 3 d (by omega) (by omega)).mono ?_
    rintro e w2 ⟨rfl, hww⟩
    rw [hww]
    clear hww w2
    go_wp2_with fail
    refine (Pow8_inv _ (vF (cF 3 ^ d)) (by omega)).mono ?_
    rintro e w3 ⟨rfl, hww⟩
    rw [hww]
    clear hww w3
    rw [cF_v, HX.out]
    go_wp2_with fail
    refine (Pow8_inv _ n (by omega)).mono ?_
    rintro e w4 ⟨rfl, hww⟩
    rw [hww]
    clear hww w4
    rw [HY.out]
    go_wp2_with fail
    go_loopw [9, 10, 11] (fun ov pv kv wr => ∃ (k p : Nat), k ≤ n ∧ kv = .int .i64 k ∧ pv = .int .u32 p ∧ p < 998244353 ∧ cF p = rtF true n ^ k ∧ Own wr w.heap.size ov ((trF true xs).take k) ∧ Fwd w wr) (fun _ _ kv _ => n - (intOf kv).toNat)
    case atStart => exact ⟨0, 1, by omega, rfl, rfl, by omega, by rw [rpow_zero]; rfl, Own.nil _ _, Fwd.refl _⟩
    case round =>
      obtain ⟨k, p, hk, rfl, rfl, hp, hcp, hO, hF⟩ := hrel
      have HO := hid hO
      have HF := hid hF
      have HP := hid hcp
      clear hO hF hcp
      by_cases hkn : k < n
      · obtain ⟨oo, oc, rfl, _, _, _⟩ := HO.out.parts
        have htl2 : ((trF true xs).take k).length = k := by rw [List.length_take, htl.out]; omega
        rw [htl2] at HO ⊢
        go_wp2_with fail
        go_loopw [12, 13, 14] (fun sv qv jv ws => ∃ (j S q : Nat), j ≤ n ∧ jv = .int .i64 j ∧ sv = .int .u64 S ∧ qv = .int .u32 q ∧ SInn xs (rtF true n) k j S q ∧ ws = wr) (fun _ _ jv _ => n - (intOf jv).toNat)
        case atStart => exact ⟨0, 0, 1, by omega, rfl, rfl, rfl, SInn.start _ _ _, rfl⟩
        case round =>
          obtain ⟨j, S, q, hj, rfl, rfl, rfl, hI, rfl⟩ := hrel
          obtain ⟨s1, s2, s3, s4⟩ := hI
          have HI : Hid (SInn xs (rtF true n) k j S q) := hid ⟨s1, s2, s3, s4⟩
          have hjm : j * 998244353 ≤ 1024 * 998244353 := Nat.mul_le_mul_right _ (by omega)
          have hS : S ≤ 1022202217472 := by omega
          clear s1 s3 s4 hjm
          by_cases hjn : j < n
          · obtain ⟨bb, bo, rfl, hyk⟩ := HC.out j hjn
            have hyk := HF.out.cell hyk
            have hst := hid (HI.out.step (p := p) HP.out)
            have hzl := HOK.out.getD j
            obtain ⟨z, hz⟩ : ∃ z, z = xs.getD j 0 := ⟨_, rfl⟩
            rw [← hz] at hyk hst hzl
            clear hz
            go_wp2_with fail
            refine (times8_any _ z q (by omega) (by omega)).mono ?_
            rintro e w5 ⟨rfl, rfl⟩
            have hm1 : z * q % 998244353 < 998244353 := Nat.mod_lt _ (by omega)
            obtain ⟨m1, hm1'⟩ : ∃ m1, m1 = z * q % 998244353 := ⟨_, rfl⟩
            rw [← hm1'] at hm1 hst ⊢
            clear hm1'
            go_wp2_with fail
            refine (times8_any _ q p (by omega) (by omega)).mono ?_
            rintro e w6 ⟨rfl, rfl⟩
            go_wp2_with fail
            go_roundw
            case rel => exact ⟨j + 1, S + m1, q * p % 998244353, by omega, by go_num, by go_num, rfl, hst.out, trivial⟩
            case measure => simp [intOf]; omega
          · obtain rfl : j = n := by omega
            have hS2 : S % 998244353 < 998244353 := Nat.mod_lt _ (by omega)
            have hfin : Hid (S % 998244353 * y % 998244353 = vF (dft (fF xs) (rtF true j) j k * shF true j)) := by
              refine hid (vF_of (Nat.mod_lt _ (by omega)) ?_)
              rw [cF_mod, cF_mul, cF_mod, HI.out.2.2.1, hcy.out]
              rfl
            have htk2 := hid (htk.out k hkn)
            rw [← hfin.out] at htk2
            go_wp2_with fail
            refine (times8_any _ (S % 998244353) y (by omega) (by omega)).mono ?_
            rintro e w5 ⟨rfl, hww⟩
            rw [hww]
            clear hww w5
            have hm1 : S % 998244353 * y % 998244353 < 998244353 := Nat.mod_lt _ (by omega)
            obtain ⟨m1, hm1'⟩ : ∃ m1, m1 = S % 998244353 * y % 998244353 := ⟨_, rfl⟩
            rw [← hm1'] at hm1 htk2 ⊢
            clear hm1' hfin
            obtain ⟨ha, hb, hc⟩ := HO.out.more HF.out.size m1
            have hlz : Hid (((trF true xs).take k).length ≤ 1000000000) := hid (by rw [htl2]; omega)
            have HF2 := hid (HF.out.alloc (.cells #[.int .u32 (m1 : Int)] 22))
            go_wp2_with (at_builtin; refine law_append1 rfl (.tmp 64) (.tmp 70) rfl w.heap.size _ ((trF true xs).take k) rfl ha.out _ m1 1 rfl (by omega) hb.out hlz.out hc.out ?_)
            intro v' w6 hO6 hB6
            have HO6 := hid hO6
            have HF6 : Hid (Fwd w w6) := hid (Below.trans HF2.out hB6)
            clear hO6 hB6
            go_wp2_with fail
            refine (times8_any _ p x (by omega) (by omega)).mono ?_
            rintro e w7 ⟨rfl, hww⟩
            rw [hww]
            clear hww w7
            go_wp2_with fail
            go_roundw
            case rel =>
              refine ⟨k + 1, p * x % 998244353, by omega, by go_num, rfl, Nat.mod_lt _ (by omega), ?_, ?_, HF6.out⟩
              · rw [cF_mod, cF_mul, HP.out, hcx.out, rpow_add, rpow_one]
              · rw [htk2.out]; exact HO6.out
            case measure => simp [intOf]; omega
      · obtain rfl : k = n := by omega
        have htl2 : (trF true xs).take k = trF true xs := by rw [← htl.out, List.take_length]
        rw [htl2] at HO
        go_wp2_with fail
        go_returns
        exact ⟨_, rfl, HO.out.rd, HF.out⟩
  | false =>
    rw [if_neg (by simp)] at HX HY
    rw [vF_one] at HY
    have hy1 : y = 1 := HY.out.symm
    subst hy1
    go_enter Try.func15, Try.ntmps15
    rw [← HN.out]
    go_wp2_with fail
    refine hsm.out.mono ?_
    rintro e w1 ⟨rfl, hww⟩
    rw [hww]
    clear hww w1
    go_wp2_with fail
    refine (Pow8_pos _ 3 d (by omega) (by omega)).mono ?_
    rintro e w2 ⟨rfl, hww⟩
    rw [hww]
    clear hww w2
    rw [show cF ((3 : Nat)) = cF 3 from rfl, HX.out]
    go_wp2_with fail
    go_loopw [9, 10, 11] (fun ov pv kv wr => ∃ (k p : Nat), k ≤ n ∧ kv = .int .i64 k ∧ pv = .int .u32 p ∧ p < 998244353 ∧ cF p = rtF false n ^ k ∧ Own wr w.heap.size ov ((trF false xs).take k) ∧ Fwd w wr) (fun _ _ kv _ => n - (intOf kv).toNat)
    case atStart => exact ⟨0, 1, by omega, rfl, rfl, by omega, by rw [rpow_zero]; rfl, Own.nil _ _, Fwd.refl _⟩
    case round =>
      obtain ⟨k, p, hk, rfl, rfl, hp, hcp, hO, hF⟩ := hrel
      have HO := hid hO
      have HF := hid hF
      have HP := hid hcp
      clear hO hF hcp
      by_cases hkn : k < n
      · obtain ⟨oo, oc, rfl, _, _, _⟩ := HO.out.parts
        have htl2 : ((trF false xs).take k).length = k := by rw [List.length_take, htl.out]; omega
        rw [htl2] at HO ⊢
        go_wp2_with fail
        go_loopw [12, 13, 14] (fun sv qv jv ws => ∃ (j S q : Nat), j ≤ n ∧ jv = .int .i64 j ∧ sv = .int .u64 S ∧ qv = .int .u32 q ∧ SInn xs (rtF false n) k j S q ∧ ws = wr) (fun _ _ jv _ => n - (intOf jv).toNat)
        case atStart => exact ⟨0, 0, 1, by omega, rfl, rfl, rfl, SInn.start _ _ _, rfl⟩
        case round =>
          obtain ⟨j, S, q, hj, rfl, rfl, rfl, hI, rfl⟩ := hrel
          obtain ⟨s1, s2, s3, s4⟩ := hI
          have HI : Hid (SInn xs (rtF false n) k j S q) := hid ⟨s1, s2, s3, s4⟩
          have hjm : j * 998244353 ≤ 1024 * 998244353 := Nat.mul_le_mul_right _ (by omega)
          have hS : S ≤ 1022202217472 := by omega
          clear s1 s3 s4 hjm
          by_cases hjn : j < n
          · obtain ⟨bb, bo, rfl, hyk⟩ := HC.out j hjn
            have hyk := HF.out.cell hyk
            have hst := hid (HI.out.step (p := p) HP.out)
            have hzl := HOK.out.getD j
            obtain ⟨z, hz⟩ : ∃ z, z = xs.getD j 0 := ⟨_, rfl⟩
            rw [← hz] at hyk hst hzl
            clear hz
            go_wp2_with fail
            refine (times8_any _ z q (by omega) (by omega)).mono ?_
            rintro e w5 ⟨rfl, rfl⟩
            have hm1 : z * q % 998244353 < 998244353 := Nat.mod_lt _ (by omega)
            obtain ⟨m1, hm1'⟩ : ∃ m1, m1 = z * q % 998244353 := ⟨_, rfl⟩
            rw [← hm1'] at hm1 hst ⊢
            clear hm1'
            go_wp2_with fail
            refine (times8_any _ q p (by omega) (by omega)).mono ?_
            rintro e w6 ⟨rfl, rfl⟩
            go_wp2_with fail
            go_roundw
            case rel => exact ⟨j + 1, S + m1, q * p % 998244353, by omega, by go_num, by go_num, rfl, hst.out, trivial⟩
            case measure => simp [intOf]; omega
          · obtain rfl : j = n := by omega
            have hS2 : S % 998244353 < 998244353 := Nat.mod_lt _ (by omega)
            have hfin : Hid (S % 998244353 * 1 % 998244353 = vF (dft (fF xs) (rtF false j) j k * shF false j)) := by
              refine hid (vF_of (Nat.mod_lt _ (by omega)) ?_)
              rw [cF_mod, cF_mul, cF_mod, HI.out.2.2.1, hcy.out]
              rfl
            have htk2 := hid (htk.out k hkn)
            rw [← hfin.out] at htk2
            go_wp2_with fail
            refine (times8_any _ (S % 998244353) 1 (by omega) (by omega)).mono ?_
            rintro e w5 ⟨rfl, hww⟩
            rw [hww]
            clear hww w5
            have hm1 : S % 998244353 * 1 % 998244353 < 998244353 := Nat.mod_lt _ (by omega)
            obtain ⟨m1, hm1'⟩ : ∃ m1, m1 = S % 998244353 * 1 % 998244353 := ⟨_, rfl⟩
            rw [← hm1'] at hm1 htk2 ⊢
            clear hm1' hfin
            obtain ⟨ha, hb, hc⟩ := HO.out.more HF.out.size m1
            have hlz : Hid (((trF false xs).take k).length ≤ 1000000000) := hid (by rw [htl2]; omega)
            have HF2 := hid (HF.out.alloc (.cells #[.int .u32 (m1 : Int)] 22))
            go_wp2_with (at_builtin; refine law_append1 rfl (.tmp 64) (.tmp 70) rfl w.heap.size _ ((trF false xs).take k) rfl ha.out _ m1 1 rfl (by omega) hb.out hlz.out hc.out ?_)
            intro v' w6 hO6 hB6
            have HO6 := hid hO6
            have HF6 : Hid (Fwd w w6) := hid (Below.trans HF2.out hB6)
            clear hO6 hB6
            go_wp2_with fail
            refine (times8_any _ p x (by omega) (by omega)).mono ?_
            rintro e w7 ⟨rfl, hww⟩
            rw [hww]
            clear hww w7
            go_wp2_with fail
            go_roundw
            case rel =>
              refine ⟨k + 1, p * x % 998244353, by omega, by go_num, rfl, Nat.mod_lt _ (by omega), ?_, ?_, HF6.out⟩
              · rw [cF_mod, cF_mul, HP.out, hcx.out, rpow_add, rpow_one]
              · rw [htk2.out]; exact HO6.out
            case measure => simp [intOf]; omega
      · obtain rfl : k = n := by omega
        have htl2 : (trF false xs).take k = trF false xs := by rw [← htl.out, List.take_length]
        rw [htl2] at HO
        go_wp2_with fail
        go_returns
        exact ⟨_, rfl, HO.out.rd, HF.out⟩

end Go.Proofs.Ytimlpehgafjkpaa
