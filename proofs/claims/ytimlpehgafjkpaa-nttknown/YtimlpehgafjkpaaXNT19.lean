/- Contract: the second telling's Conv. -/
import Derived.Test.YtimlpehgafjkpaaXNT18
namespace Go.Proofs.Ytimlpehgafjkpaa
open Go.RowKit Go.Maps
set_option linter.unusedVariables false
set_option linter.unusedSimpArgs false

set_option maxHeartbeats 1000000 in
theorem Conv8_long {w : World} {u v : Value} {xs ys : List Nat} (hu : Rd w u xs) (hv : Rd w v ys) (lx : xs.length ≤ 1000000000) (ly : ys.length ≤ 1000000000) (h : xs.length = 0 ∨ ys.length = 0 ∨ 1025 < xs.length + ys.length) :
    Calls Try.prog 18 #[u, v] w fun e w' => e = .returned (.tuple #[.slice none 0 0, .int .i64 3]) ∧ Fwd w w' := by
  obtain ⟨ao, ac, rfl, a1, a2⟩ := hu.len
  obtain ⟨bo, bc, rfl, b1, b2⟩ := hv.len
  clear hu hv
  generalize xs.length = la at *
  generalize ys.length = lb at *
  by_cases h0 : la = 0
  · subst h0
    go_enter Try.func18, Try.ntmps18
    go_wp2_with fail
    go_returns
    exact ⟨rfl, Fwd.refl w⟩
  · have i0 : ((la : Int) == 0) = false := beq_eq_false_iff_ne.2 (by omega)
    by_cases h1 : lb = 0
    · subst h1
      go_enter Try.func18, Try.ntmps18
      go_wp2_with fail
      go_returns
      exact ⟨rfl, Fwd.refl w⟩
    · have i1 : ((lb : Int) == 0) = false := beq_eq_false_iff_ne.2 (by omega)
      have i2 : decide (1024 < (la : Int) + lb - 1) = true := decide_eq_true (by omega)
      go_enter Try.func18, Try.ntmps18
      go_wp2_with fail
      go_returns
      exact ⟨rfl, Fwd.refl w⟩

set_option maxHeartbeats 1000000 in
theorem Conv8_bad {w : World} {u v : Value} {xs ys : List Nat} (hu : Rd w u xs) (hv : Rd w v ys) (hx0 : 0 < xs.length) (hy0 : 0 < ys.length) (hl : xs.length + ys.length ≤ 1025) (hR : (allR xs && allR ys) = false) :
    Calls Try.prog 18 #[u, v] w fun e w' => e = .returned (.tuple #[.slice none 0 0, .int .i64 1]) ∧ Fwd w w' := by
  have hax := hid (small8_any hu (by omega))
  have hay := hid (small8_any hv (by omega))
  obtain ⟨ao, ac, rfl, a1, a2⟩ := hu.len
  obtain ⟨bo, bc, rfl, b1, b2⟩ := hv.len
  clear hu hv
  generalize xs.length = la at *
  generalize ys.length = lb at *
  have i0 : ((la : Int) == 0) = false := beq_eq_false_iff_ne.2 (by omega)
  have i1 : ((lb : Int) == 0) = false := beq_eq_false_iff_ne.2 (by omega)
  have i2 : decide (1024 < (la : Int) + lb - 1) = false := decide_eq_false (by omega)
  cases hx : allR xs with
  | false =>
    rw [hx] at hax
    go_enter Try.func18, Try.ntmps18
    go_wp2_with fail
    refine hax.out.mono ?_
    rintro e w1 ⟨rfl, hww⟩
    rw [hww]
    clear hww w1
    go_wp2_with fail
    go_returns
    exact ⟨rfl, Fwd.refl _⟩
  | true =>
    rw [hx, Bool.true_and] at hR
    rw [hx] at hax
    rw [hR] at hay
    go_enter Try.func18, Try.ntmps18
    go_wp2_with fail
    refine hax.out.mono ?_
    rintro e w1 ⟨rfl, hww⟩
    rw [hww]
    clear hww w1
    go_wp2_with fail
    refine hay.out.mono ?_
    rintro e w1 ⟨rfl, hww⟩
    rw [hww]
    clear hww w1
    go_wp2_with fail
    go_returns
    exact ⟨rfl, Fwd.refl _⟩

/-- How far the sums are: i rows whole, and k numbers of the next. -/
def CInv (xs ys : List Nat) (n i k : Nat) (Z : List Nat) : Prop := Z.length = n ∧ ∀ t, t < n → Z.getD t 0 < 998244353 ∧ fF Z t = cvF (fF xs) i (fF ys) ys.length t + sm (fun j => if i + j = t then fF xs i * fF ys j else 0) k
theorem CInv.start (xs ys : List Nat) (n : Nat) : CInv xs ys n 0 0 (List.replicate n 0) := by
  refine ⟨List.length_replicate, fun t ht => ?_⟩
  have hz : (List.replicate n 0).getD t 0 = 0 := by simp [List.getD_eq_getElem?_getD, List.getElem?_replicate, ht]
  refine ⟨by rw [hz]; omega, ?_⟩
  show cF ((List.replicate n 0).getD t 0) = 0 + 0
  rw [hz, cF_zero]; grind
theorem CInv.row {xs ys : List Nat} {n i : Nat} {Z : List Nat} (h : CInv xs ys n i ys.length Z) : CInv xs ys n (i + 1) 0 Z := by
  refine ⟨h.1, fun t ht => ⟨(h.2 t ht).1, ?_⟩⟩
  rw [(h.2 t ht).2]
  show _ = (cvF (fF xs) i (fF ys) ys.length t + _) + 0
  grind
theorem CInv.step {xs ys : List Nat} {n i k : Nat} {Z : List Nat} (h : CInv xs ys n i k Z) (hk : i + k < n) : CInv xs ys n i (k + 1) (Z.set (i + k) ((Z.getD (i + k) 0 + xs.getD i 0 * ys.getD k 0 % 998244353) % 998244353)) := by
  refine ⟨by rw [List.length_set]; exact h.1, fun t ht => ?_⟩
  by_cases e : t = i + k
  · subst e
    have hg := getD_set_eq Z (i + k) ((Z.getD (i + k) 0 + xs.getD i 0 * ys.getD k 0 % 998244353) % 998244353) (by rw [h.1]; exact hk)
    refine ⟨by rw [hg]; exact Nat.mod_lt _ (by omega), ?_⟩
    show cF (List.getD _ (i + k) 0) = _
    rw [hg, cF_mod, cF_add, cF_mod, cF_mul, sm, if_pos rfl]
    have := (h.2 (i + k) hk).2
    show fF Z (i + k) + fF xs i * fF ys k = _
    rw [this]; grind
  · have hg := getD_set_ne Z (i + k) t ((Z.getD (i + k) 0 + xs.getD i 0 * ys.getD k 0 % 998244353) % 998244353) (fun h => e h.symm)
    refine ⟨by rw [hg]; exact (h.2 t ht).1, ?_⟩
    show cF (List.getD _ t 0) = _
    rw [hg, sm, if_neg (fun h => e h.symm)]
    show fF Z t = _
    rw [(h.2 t ht).2]; grind

set_option maxHeartbeats 8000000 in
set_option maxRecDepth 20000 in
theorem Conv8_good {w : World} {u v : Value} {xs ys : List Nat} (hu : Rd w u xs) (hv : Rd w v ys) (hx0 : 0 < xs.length) (hy0 : 0 < ys.length) (hl : xs.length + ys.length ≤ 1025) (hR : allR xs = true) (hS : allR ys = true) :
    Calls Try.prog 18 #[u, v] w fun e w' => ∃ z, e = .returned (.tuple #[z, .int .i64 0]) ∧ Rd w' z (cvL xs ys) ∧ Fwd w w' := by
  have hax := hid (small8_any hu (by omega))
  have hay := hid (small8_any hv (by omega))
  obtain ⟨ao, ac, rfl, a1, a2, _, ca⟩ := hu.parts
  obtain ⟨bo, bc, rfl, b1, b2, _, cb⟩ := hv.parts
  unfold maxLen at a2 b2
  have CA := hid ca
  have CB := hid cb
  clear hu hv ca cb
  obtain ⟨la, hla⟩ : ∃ la, la = xs.length := ⟨_, rfl⟩
  obtain ⟨lb, hlb⟩ : ∃ lb, lb = ys.length := ⟨_, rfl⟩
  rw [← hla] at hx0 hl a1 hax CA ⊢
  rw [← hlb] at hy0 hl b1 hay CB ⊢
  have HLA := hid hla
  have HLB := hid hlb
  clear hla hlb
  have i0 : ((la : Int) == 0) = false := beq_eq_false_iff_ne.2 (by omega)
  have i1 : ((lb : Int) == 0) = false := beq_eq_false_iff_ne.2 (by omega)
  obtain ⟨n, hn⟩ : ∃ n, n = la + lb - 1 := ⟨_, rfl⟩
  have hni : (la : Int) + lb - 1 = (n : Int) := by omega
  have i2 : decide (1024 < (n : Int)) = false := decide_eq_false (by omega)
  have n0 : 0 < n := by omega
  have n1 : n ≤ 1024 := by omega
  have hlan : la + lb = n + 1 := by omega
  have HN := hid hn
  clear hn
  rw [hR] at hax
  rw [hS] at hay
  go_enter Try.func18, Try.ntmps18
  go_wp2_with fail
  refine hax.out.mono ?_
  rintro e w1 ⟨rfl, hww⟩
  rw [hww]
  clear hww w1
  go_wp2_with fail
  refine hay.out.mono ?_
  rintro e w1 ⟨rfl, hww⟩
  rw [hww]
  clear hww w1
  go_wp2_with (first | (at_make; refine law_make rfl _ _ rfl .i64 .i64 _ _ n rfl rfl (by omega) (by omega) (by omega) ?_))
  intro w1 hb1 hf1
  have HB1 := hid hb1
  have HF1 := hid hf1
  clear hb1 hf1
  obtain ⟨g, hg⟩ : ∃ g, g = w.heap.size := ⟨_, rfl⟩
  have hge : w.heap.size ≤ g := by omega
  rw [← hg] at HB1 ⊢
  clear hg
  go_wp2_with fail
  go_loopw [7] (fun iv wr => ∃ (i : Nat) (Z : List Nat), i ≤ la ∧ iv = .int .i64 i ∧ Blk wr g Z ∧ Fwd w wr ∧ CInv xs ys n i 0 Z) (fun iv _ => la - (intOf iv).toNat)
  case atStart => exact ⟨0, _, by omega, rfl, HB1.out, HF1.out, CInv.start xs ys n⟩
  case round =>
    obtain ⟨i, Z, hi, rfl, hB, hF, hI⟩ := hrel
    have HB := hid hB
    have HF := hid hF
    have HI := hid hI
    clear hB hF hI
    by_cases hil : i < la
    · go_wp2_with fail
      go_loopw [8] (fun kv ws => ∃ (k : Nat) (Z : List Nat), k ≤ lb ∧ kv = .int .i64 k ∧ Blk ws g Z ∧ Fwd w ws ∧ CInv xs ys n i k Z) (fun kv _ => lb - (intOf kv).toNat)
      case atStart => exact ⟨0, Z, by omega, rfl, HB.out, HF.out, HI.out⟩
      case round =>
        obtain ⟨k, Y, hk, rfl, hB2, hF2, hI2⟩ := hrel
        have HB2 := hid hB2
        have HF2 := hid hF2
        have HI2 := hid hI2
        clear hB2 hF2 hI2
        by_cases hkl : k < lb
        · obtain ⟨ab, aoff, rfl, hya⟩ := CA.out i hil
          obtain ⟨bb, boff, rfl, hyb⟩ := CB.out k hkl
          have hya := HF2.out.cell hya
          have hyb := HF2.out.cell hyb
          have hst := hid (HI2.out.step (by omega))
          have hck := hid (HB2.out.cell (i + k) (by rw [HI2.out.1]; omega))
          have hfo := hid (HB2.out.frozen (i + k))
          have hset := hid (HB2.out.set (i + k))
          have hxl := allR_get hR i
          have hyl := allR_get hS k
          have hzl := (HI2.out.2 (i + k) (by omega)).1
          obtain ⟨x, hx⟩ : ∃ x, x = xs.getD i 0 := ⟨_, rfl⟩
          obtain ⟨y, hy⟩ : ∃ y, y = ys.getD k 0 := ⟨_, rfl⟩
          obtain ⟨s, hs⟩ : ∃ s, s = i + k := ⟨_, rfl⟩
          have hsi : (i : Int) + (k : Int) = (s : Int) := by omega
          have hsn : s < n := by omega
          rw [← hs] at hst hck hfo hset hzl
          obtain ⟨z, hz⟩ : ∃ z, z = Y.getD s 0 := ⟨_, rfl⟩
          rw [← hx] at hya hst hxl
          rw [← hy] at hyb hst hyl
          rw [← hz] at hst hck hzl
          have hpl : x * y % 998244353 < 998244353 := Nat.mod_lt _ (by omega)
          have hct : Hid (∀ w', Calls Try.prog 21 #[.int .u32 x, .int .u32 y] w' fun e' w'' => e' = .returned (.int .u32 ((x * y % 998244353 : Nat) : Int)) ∧ w'' = w') := hid fun w' => times8_any w' x y (by omega) (by omega)
          obtain ⟨p, hp'⟩ : ∃ p, p = x * y % 998244353 := ⟨_, rfl⟩
          rw [← hp'] at hst hpl hct
          have hset2 := hid (hset.out ((z + p) % 998244353) (by omega))
          clear hx hy hs hz hp' hset
          go_wp2_with fail
          have c1 := hck.out
          have f1 := hfo.out
          have q1 : (s : Int) < (n : Int) := by omega
          have q2 : (0 : Int) ≤ (s : Int) := by omega
          have q5 : IntKind.i64.wrap (s : Int) = (s : Int) := by rw [IntKind.wrap_i64]; omega
          have q6 : IntKind.u64.wrap ((z : Int) + (p : Int)) = (z : Int) + (p : Int) := by rw [IntKind.wrap_u64]; omega
          have q3 : (i : Int) < (la : Int) := by omega
          have q4 : (k : Int) < (lb : Int) := by omega
          have hzY : Y.length = n := HI2.out.1
          go_region_with (go_at_call 21; refine (hct.out _).mono ?_; rintro e1 w1 ⟨rfl, rfl⟩)
          all_goals (
            have he : IntKind.u32.wrap ((IntKind.u64.wrap (IntKind.u64.wrap (z : Int) + IntKind.u64.wrap (p : Int))).tmod 998244353) = (((z + p) % 998244353 : Nat) : Int) := by
              have w1 : IntKind.u64.wrap (z : Int) = (z : Int) := by rw [IntKind.wrap_u64]; omega
              have w2 : IntKind.u64.wrap (p : Int) = (p : Int) := by rw [IntKind.wrap_u64]; omega
              rw [w1, w2, q6, Int.tmod_eq_emod_of_nonneg (by omega), IntKind.wrap_u32]
              omega
            rw [he]
            generalize hw9 : ((wr.setCell ⟨g, s, none⟩ (.int .u32 (((z + p) % 998244353 : Nat) : Int))).drew) = w9 at *
            have hO9 : Only g wr w9 := by rw [← hw9]; exact ((Only.refl g wr).setv s _).drew
            have hB9 : Hid (Blk w9 g (Y.set s ((z + p) % 998244353))) := by rw [← hw9]; exact hset2.out
            have hF9 := hid (HF2.out.wrote hO9 hge)
            clear hw9 hset2 hO9 he q1 q2 q3 q4 q5 q6
            go_wp2_with fail
            go_roundw
            case rel => exact ⟨k + 1, _, by omega, by go_num, hB9.out, hF9.out, hst.out⟩
            case measure => simp [intOf]; omega)
        · go_wp2_with fail
          go_roundw
          case rel =>
            have e1 : k = lb := by omega
            have hI3 := HI2.out
            rw [e1, HLB.out] at hI3
            exact ⟨i + 1, Y, by omega, by go_num, HB2.out, HF2.out, hI3.row⟩
          case measure => simp [intOf]; omega
    · obtain rfl : i = la := by omega
      go_wp2_with fail
      go_returns
      have hZ : Z = cvL xs ys := by
        have h2 := HN.out
        rw [HLA.out, HLB.out] at h2
        refine list_ext (by rw [cvL_len, HI.out.1, h2]) fun t ht => ?_
        rw [HI.out.1] at ht
        obtain ⟨z1, z2⟩ := HI.out.2 t ht
        rw [cvL_getD xs ys t (by omega)]
        refine vF_of z1 ?_
        show fF Z t = _
        rw [z2, HLA.out]
        show _ + 0 = _
        grind
      have hzl := HI.out.1
      refine ⟨_, rfl, ?_, HF.out⟩
      have hrd := HB.out.rdAll n (by omega) (by unfold maxLen; omega)
      rw [hzl, hZ] at hrd
      exact hrd

theorem Conv8_any {w : World} {u v : Value} {xs ys : List Nat} (hu : Rd w u xs) (hv : Rd w v ys) (lx : xs.length ≤ 1000000000) (ly : ys.length ≤ 1000000000) :
    Calls Try.prog 18 #[u, v] w fun e w' => ∃ z, e = .returned (.tuple #[z, .int .i64 (((cvA xs ys).2 : Nat) : Int)]) ∧ Rd w' z (cvA xs ys).1 ∧ Fwd w w' := by
  unfold cvA
  by_cases h : xs.length = 0 ∨ ys.length = 0 ∨ 1025 < xs.length + ys.length
  · rw [if_pos h]
    refine (Conv8_long hu hv lx ly h).mono ?_
    rintro e w1 ⟨rfl, hf⟩
    exact ⟨_, rfl, Rd.nil _, hf⟩
  · rw [if_neg h]
    by_cases hR : (allR xs && allR ys) = true
    · rw [if_pos hR]
      rw [Bool.and_eq_true] at hR
      exact Conv8_good hu hv (by omega) (by omega) (by omega) hR.1 hR.2
    · rw [if_neg hR]
      refine (Conv8_bad hu hv (by omega) (by omega) (by omega) (by simpa using hR)).mono ?_
      rintro e w1 ⟨rfl, hf⟩
      exact ⟨_, rfl, Rd.nil _, hf⟩
end Go.Proofs.Ytimlpehgafjkpaa
