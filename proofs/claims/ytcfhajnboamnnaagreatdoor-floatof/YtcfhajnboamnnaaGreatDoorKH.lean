/- The number that a value is, as a measure; contract of the second telling's Gcd. -/
/- Div, whatever the divisor; limbs that are written out. -/
/- Contract of nat's steps.walk: so many steps of Euclid's way at once. -/
/- Contracts of nat's oneStep and lessen. -/
/- Contracts of nat's gcdShort and Gcd. -/
/- Contract of nat's Gcd. -/
import Derived.Test.YtcfhajnboamnnaaGreatDoorKE
import Derived.Test.YtcfhajnboamnnaaGreatDoorKG
import Derived.Deep.RegionWith
namespace Go.Proofs.YtcfhajnboamnnaaGreatDoor
open Go.RowKit
set_option linter.unusedVariables false

theorem Rd.inj {w : World} {v : Value} {xs ys : List Nat} (h : Rd w v xs) (k : Rd w v ys) : xs = ys := by
  obtain ⟨ao, cap, e1, _, _, _, h3⟩ := h.parts
  obtain ⟨ao', cap', e2, _, _, _, k3⟩ := k.parts
  rw [e1] at e2
  injection e2 with e3 e4 e5
  subst e3
  apply List.ext_getElem e4
  intro i h1 h2
  obtain ⟨b, off, rfl, hc⟩ := h3 i h1
  obtain ⟨b', off', e6, hc'⟩ := k3 i h2
  cases e6
  rw [hc] at hc'
  have e7 := Option.some.inj hc'
  injection e7 with _ e8
  simp only [List.getD_eq_getElem?_getD, List.getElem?_eq_getElem h1, List.getElem?_eq_getElem h2, Option.getD_some] at e8
  omega
theorem Num.inj {w : World} {v : Value} {m n : Nat} (h : Num w v m) (k : Num w v n) : m = n := lim_inj (Rd.inj h k)

/-- The number that v is. -/
theorem numOf_ex : ∃ f : World → Value → Nat, ∀ (w : World) (v : Value) (n : Nat), Num w v n → f w v = n := by
  classical
  refine ⟨fun w v => if h : ∃ n, Num w v n then h.choose else 0, fun w v n h => ?_⟩
  have hx : ∃ n, Num w v n := ⟨n, h⟩
  show (if h : ∃ n, Num w v n then h.choose else 0) = n
  rw [dif_pos hx]
  exact Num.inj hx.choose_spec h

set_option maxHeartbeats 2000000 in
theorem refGcd_any {w : World} {a b : Value} {m n : Nat} (ha : Num w a m) (hb : Num w b n) (hm : nl m ≤ 30000) (hn : nl n ≤ 30000) :
    Calls Tryz.prog 25 #[a, b] w fun e w' => ∃ v, e = .returned v ∧ Num w' v (Nat.gcd m n) ∧ Fwd w w' := by
  obtain ⟨numOf, hq0⟩ := numOf_ex
  have NQ := hid hq0
  clear hq0
  go_enter Tryz.func25, Tryz.ntmps25
  go_wp2
  go_loopw [0, 1] (fun a b wr => ∃ A B : Nat, Num wr a A ∧ Num wr b B ∧ nl A ≤ 30000 ∧ nl B ≤ 30000 ∧ Nat.gcd A B = Nat.gcd m n ∧ Fwd w wr) (fun _ b wr => numOf wr b)
  case atStart => exact ⟨m, n, ha, hb, hm, hn, rfl, Fwd.refl _⟩
  case round =>
    obtain ⟨A, B, hA, hB, hAl, hBl, hg, hfw⟩ := hrel
    have HG := hid hg
    clear hg
    have HNB := hid (NQ.out _ _ _ hB)
    obtain ⟨bo, cb, rfl, hcb, hcmb, hcellb⟩ := hB.parts
    unfold maxLen at hcmb
    clear hcellb
    by_cases h0 : B = 0
    · have h1 : nl B = 0 := by rw [h0, nl_zero]
      have H0 := hid h0
      rw [h1]
      clear h0
      go_wp2_with fail
      refine (refTrim_any hA (show nl A ≤ _ by omega)).mono ?_
      rintro e w1 ⟨v, rfl, hv, hf⟩
      rw [val_lim] at hv
      go_wp2
      go_ret
      refine ⟨_, rfl, ?_, hfw.trans hf⟩
      rw [← HG.out, H0.out, Nat.gcd_zero_right]; exact hv
    · have hpos : 0 < nl B := by rw [nl_pos h0]; omega
      have H0 := hid h0
      clear h0
      go_wp2_with fail
      refine (refDiv_any hA hB hAl hBl H0.out).mono ?_
      rintro e w1 ⟨q, r, rfl, hq, hr, hf⟩
      have hB1 := hB.fwd hf
      go_wp2
      go_roundw
      case rel =>
        refine ⟨B, A % B, hB1, hr, hBl, Nat.le_trans (nl_mono (Nat.mod_le _ _)) hAl, ?_, hfw.trans hf⟩
        rw [← HG.out, Nat.gcd_comm B, ← Nat.gcd_rec, Nat.gcd_comm]
      case measure =>
        show numOf _ _ < numOf _ _
        rw [NQ.out _ _ _ hr, HNB.out]
        exact Nat.mod_lt _ (Nat.pos_of_ne_zero H0.out)

end Go.Proofs.YtcfhajnboamnnaaGreatDoor

namespace Go.Proofs.YtcfhajnboamnnaaGreatDoor
open Go.RowKit
set_option linter.unusedVariables false

/-- What is left; nought where the divisor is. -/
def remV (m n : Nat) : Nat := if n = 0 then 0 else m % n
/-- The error beside it. -/
def divE (n : Nat) : Int := if n = 0 then 5 else 0
theorem nl_remV (m n : Nat) : nl (remV m n) ≤ nl m := by
  unfold remV
  split
  · rw [nl_zero]; omega
  · exact nl_mono (Nat.mod_le _ _)
theorem nl_div (m n : Nat) : nl (m / n) ≤ nl m := nl_mono (Nat.div_le_self _ _)

theorem div_each {w : World} {a b : Value} {m n : Nat} (ha : Num w a m) (hb : Num w b n) (hm : nl m ≤ 10000000) (hn : nl n ≤ 10000000) :
    Calls Tryz.prog 63 #[a, b] w fun e w' => ∃ q r, e = .returned (.tuple #[q, r, .int .i64 (divE n)]) ∧ Num w' q (m / n) ∧ Num w' r (remV m n) ∧ Fwd w w' := by
  by_cases h : n = 0
  · subst h
    refine (div_zero ha hb).mono ?_
    rintro e w1 ⟨rfl, hf⟩
    exact ⟨_, _, rfl, by rw [Nat.div_zero]; exact num_nil _, num_nil _, hf⟩
  · refine (div_any ha hb hm hn h).mono ?_
    rintro e w1 ⟨q, r, rfl, hq, hr, hf⟩
    exact ⟨q, r, by rw [divE, if_neg h], hq, by rw [remV, if_neg h]; exact hr, hf⟩

set_option maxHeartbeats 2000000 in
theorem refDiv_zero {w : World} {a b : Value} {m : Nat} (ha : Num w a m) (hb : Num w b 0) :
    Calls Tryz.prog 26 #[a, b] w fun e w' => e = .returned (.tuple #[.slice none 0 0, .slice none 0 0, .int .i64 5]) ∧ Fwd w w' := by
  obtain ⟨bo, cb, rfl, hcb, hcmb, hcellb⟩ := hb.parts
  unfold maxLen at hcmb
  clear hcellb
  have h0 : nl 0 = 0 := nl_zero
  rw [h0]
  go_enter Tryz.func26, Tryz.ntmps26
  go_wp2
  go_ret3
  exact ⟨rfl, Fwd.refl _⟩

theorem refDiv_each {w : World} {a b : Value} {m n : Nat} (ha : Num w a m) (hb : Num w b n) (hm : nl m ≤ 30000) (hn : nl n ≤ 30000) :
    Calls Tryz.prog 26 #[a, b] w fun e w' => ∃ q r, e = .returned (.tuple #[q, r, .int .i64 (divE n)]) ∧ Num w' q (m / n) ∧ Num w' r (remV m n) ∧ Fwd w w' := by
  by_cases h : n = 0
  · subst h
    refine (refDiv_zero ha hb).mono ?_
    rintro e w1 ⟨rfl, hf⟩
    exact ⟨_, _, rfl, by rw [Nat.div_zero]; exact num_nil _, num_nil _, hf⟩
  · refine (refDiv_any ha hb hm hn h).mono ?_
    rintro e w1 ⟨q, r, rfl, hq, hr, hf⟩
    exact ⟨q, r, by rw [divE, if_neg h], hq, by rw [remV, if_neg h]; exact hr, hf⟩

/-- Limbs that the text itself lays. -/
theorem num_lit (w : World) (L : List Nat) (n : Nat) (h : L = lim n) (c : Nat) (hc : c = L.length) (hs : c ≤ 1000) (o : Array Value) (ho : o = (cellsOf L).toArray) : Num (w.alloc (.cells o 46)) (.slice (some ⟨w.heap.size, 0, none⟩) c c) n := by
  subst hc
  have hb := Blk.lit w L (by rw [h]; exact ok_lim n) o ho
  have := Blk.rdAll hb L.length (Nat.le_refl _) (le_maxLen (by omega))
  unfold Num
  rwa [← h]

theorem gcd_mul_right' (x y k : Nat) : Nat.gcd (x * k) (y * k) = Nat.gcd x y * k := Nat.gcd_mul_right _ _ _
theorem gcd_parts {x y : Nat} (h : Nat.gcd x y ≠ 0) : Nat.gcd (x / Nat.gcd x y) (y / Nat.gcd x y) = 1 := by
  rw [Nat.gcd_div (Nat.gcd_dvd_left _ _) (Nat.gcd_dvd_right _ _)]
  exact Nat.div_self (Nat.pos_of_ne_zero h)
theorem nl_gcd_left (x y : Nat) (h : x ≠ 0) : nl (Nat.gcd x y) ≤ nl x := nl_mono (Nat.le_of_dvd (Nat.pos_of_ne_zero h) (Nat.gcd_dvd_left _ _))
theorem nl_gcd (x y : Nat) : nl (Nat.gcd x y) ≤ max (nl x) (nl y) := by
  by_cases h : x = 0
  · subst h; rw [Nat.gcd_zero_left]; omega
  · have := nl_gcd_left x y h; omega

end Go.Proofs.YtcfhajnboamnnaaGreatDoor

namespace Go.Proofs.YtcfhajnboamnnaaGreatDoor
open Go.RowKit
set_option linter.unusedVariables false

theorem Blk.below {w w' : World} {g base : Nat} {L : List Nat} (h : Blk w g L) (k : Below base w w') (hg : g < base) : Blk w' g L := ⟨(k.block g hg).trans h.1, h.2⟩
theorem Below.only {base g : Nat} {a w w' : World} (h : Below base a w) (k : Only g w w') (hb : base ≤ w.heap.size) (hg : base ≤ g) : Below base a w' :=
  Below.grown h k hb (fun i e => by simp at e; omega)

theorem Blk.drew {w : World} {g : Nat} {L : List Nat} (h : Blk w g L) : Blk w.drew g L := h
theorem cell_drew {w : World} {p : Addr} {v : Value} (h : w.cell? p = some v) : w.drew.cell? p = some v := h

/-- What was told by limbs is the number itself. -/
theorem diff_done {L p m X Y R Z cp cm b : Nat} (h : p * X + (b + cm) * 4294967296 ^ L = Z + m * Y + cp * 4294967296 ^ L) (hR : R + m * Y = p * X) (hRl : R < 4294967296 ^ L) (hZl : Z < 4294967296 ^ L) : Z = R := by
  generalize 4294967296 ^ L = P at *
  have e : R + (b + cm) * P = Z + cp * P := by omega
  have e1 : (R + (b + cm) * P) % P = R := by rw [Nat.add_mul_mod_self_right, Nat.mod_eq_of_lt hRl]
  have e2 : (Z + cp * P) % P = Z := by rw [Nat.add_mul_mod_self_right, Nat.mod_eq_of_lt hZl]
  rw [e] at e1
  omega

set_option maxHeartbeats 8000000 in
set_option maxRecDepth 20000 in
theorem walk_even {w : World} {gA gB L base p0 m0 p1 m1 RG RL : Nat} {A B pA pB : List Nat} (hA : Blk w gA ([] ++ (A ++ pA))) (hB : Blk w gB ([] ++ (B ++ pB))) (hne : gA ≠ gB) (hAl : A.length = L) (hBl : B.length = L) (hL : L ≤ 100000000)
    (hgA : base ≤ gA) (hgB : base ≤ gB) (hp0 : p0 < 4294967296) (hm0 : m0 < 4294967296) (hp1 : p1 < 4294967296) (hm1 : m1 < 4294967296)
    (hG : RG + m0 * val B = p0 * val A) (hLs : RL + m1 * val A = p1 * val B) (hGl : RG < 4294967296 ^ L) (hLl : RL < 4294967296 ^ L) :
    Calls Tryz.prog 97 #[.agg #[.int .u64 p0, .int .u64 m1, .int .u64 m0, .int .u64 p1, .bool false], .slice (some ⟨gA, 0, none⟩) L L, .slice (some ⟨gB, 0, none⟩) L L] w fun e w' => ∃ zs ts : List Nat, e = .returned (.tuple #[.slice (some ⟨gA, 0, none⟩) L L, .slice (some ⟨gB, 0, none⟩) L L]) ∧
      zs.length = L ∧ ts.length = L ∧ Blk w' gA ([] ++ (zs ++ pA)) ∧ Blk w' gB ([] ++ (ts ++ pB)) ∧ val zs = RG ∧ val ts = RL ∧ Below base w w' := by
  have hltA := hA.lt
  have hltB := hB.lt
  have HAB := hid (And.intro hA hB)
  have HEND := hid (And.intro hG (And.intro hLs (And.intro hGl hLl)))
  have hokA := hid hA.okMid
  have hokB := hid hB.okMid
  have HLEN := hid (And.intro hAl hBl)
  have hbs : base ≤ w.heap.size := by omega
  clear hA hB hG hLs hGl hLl hAl hBl
  go_enter Tryz.func97, Tryz.ntmps97
  go_wp2
  go_loopw [40] (fun iv wr => ∃ (k : Nat) (zs ts : List Nat) (cp cm b cp' cm' b' : Nat), k ≤ L ∧ iv = .int .i64 k ∧ cp < 4294967296 ∧ cm < 4294967296 ∧ b ≤ 1 ∧ cp' < 4294967296 ∧ cm' < 4294967296 ∧ b' ≤ 1 ∧
      Blk wr gA ([] ++ (zs ++ pA)) ∧ Blk wr gB ([] ++ (ts ++ pB)) ∧ BlkV wr (w.heap.size + 1) 117 [.int .u64 p0, .int .u64 m0, .int .u64 cp, .int .u64 cm, .int .u64 b] ∧ BlkV wr (w.heap.size + 1 + 1) 117 [.int .u64 p1, .int .u64 m1, .int .u64 cp', .int .u64 cm', .int .u64 b'] ∧
      Below base w wr ∧ zs.length = L ∧ ts.length = L ∧ zs.drop k = A.drop k ∧ ts.drop k = B.drop k ∧
      p0 * val (A.take k) + (b + cm) * 4294967296 ^ k = val (zs.take k) + m0 * val (B.take k) + cp * 4294967296 ^ k ∧
      p1 * val (B.take k) + (b' + cm') * 4294967296 ^ k = val (ts.take k) + m1 * val (A.take k) + cp' * 4294967296 ^ k) (fun iv _ => L - (intOf iv).toNat)
  case atStart =>
    have hf3 := (((Fwd.refl w).alloc (.cells #[.int .u64 p0, .int .u64 m1, .int .u64 m0, .int .u64 p1, .bool false] 107)).alloc (.cells #[.int .u64 p0, .int .u64 m0, .int .u64 0, .int .u64 0, .int .u64 0] 117)).alloc (.cells #[.int .u64 p1, .int .u64 m1, .int .u64 0, .int .u64 0, .int .u64 0] 117)
    refine ⟨0, A, B, 0, 0, 0, 0, 0, 0, by omega, rfl, by omega, by omega, by omega, by omega, by omega, by omega, HAB.out.1.fwd hf3, HAB.out.2.fwd hf3, ?_, ?_, Below.mono hf3 hbs, HLEN.out.1, HLEN.out.2, rfl, rfl, by simp [val], by simp [val]⟩
    · exact (BlkV.made2 w _ _ _).alloc _
    · have := BlkV.made2 (w.alloc (.cells #[.int .u64 p0, .int .u64 m1, .int .u64 m0, .int .u64 p1, .bool false] 107)) 117 (.cells #[.int .u64 p0, .int .u64 m0, .int .u64 0, .int .u64 0, .int .u64 0] 117) [.int .u64 p1, .int .u64 m1, .int .u64 0, .int .u64 0, .int .u64 0]
      simpa using this
  case round =>
    obtain ⟨k, zs, ts, cp, cm, b, cp', cm', b', hk, rfl, hcp, hcm, hb, hcp', hcm', hb', hz, ht, hG, hLs, hbel, hzl, htl, hzd, htd, e1, e2⟩ := hrel
    have H := hid (And.intro hzl (And.intro htl (And.intro hzd (And.intro htd (And.intro e1 e2)))))
    have HZ := hid hz
    have HT := hid ht
    have HG := hid hG
    have HL := hid hLs
    have HBEL := hid hbel
    clear hzl htl hzd htd e1 e2 hz ht hG hLs hbel
    by_cases hlt : k < L
    · have hzk := HZ.out.mid k (by rw [H.out.1]; exact hlt)
      have htk := HT.out.mid k (by rw [H.out.2.1]; exact hlt)
      simp only [List.length_nil, Nat.zero_add] at hzk htk
      rw [getD_of_drop H.out.2.2.1] at hzk
      rw [getD_of_drop H.out.2.2.2.1] at htk
      obtain ⟨x, hx⟩ : ∃ x, x = A.getD k 0 := ⟨_, rfl⟩
      obtain ⟨y, hy⟩ : ∃ y, y = B.getD k 0 := ⟨_, rfl⟩
      have hxb : x < 4294967296 := by rw [hx]; exact hokA.out.getD _
      have hyb : y < 4294967296 := by rw [hy]; exact hokB.out.getD _
      rw [← hx] at hzk
      rw [← hy] at htk
      have HXY := hid (And.intro hx hy)
      clear hx hy
      have nAG : gA ≠ w.heap.size + 1 := by omega
      have nAL : gA ≠ w.heap.size + 1 + 1 := by omega
      have nBG : gB ≠ w.heap.size + 1 := by omega
      have nBL : gB ≠ w.heap.size + 1 + 1 := by omega
      have NN := hid (And.intro nAG (And.intro nAL (And.intro nBG nBL)))
      clear nAG nAL nBG nBL
      have HGd := hid HG.out.drew
      have HLd := hid HL.out.drew
      have HZd := hid HZ.out.drew
      have HTd := hid HT.out.drew
      have HZK := hid (cell_drew hzk)
      have HTK := hid (cell_drew htk)
      go_wp2_with fail
      go_region_with (first
        | (go_at_call 107; refine (next_any hL1.out hp1 hm1 hcp' hcm' hb' hyb hxb).mono ?_
           rintro e w2 ⟨r2, b2, rfl, hr2, hb2, he2, hL2, hO2⟩
           have hZ2 := hid ((HZd.out.only hO1 NN.out.1).only hO2 NN.out.2.1)
           have hT2 := hid ((HTd.out.only hO1 NN.out.2.2.1).only hO2 NN.out.2.2.2)
           have hzf := hZ2.out.frozen k
           have htf := hT2.out.frozen k
           have hzk2 := hO2.cell (hO1.cell HZK.out NN.out.1) NN.out.2.1
           have htk2 := hO2.cell htk1 NN.out.2.2.2)
        | (go_at_call 107; refine (next_any HGd.out hp0 hm0 hcp hcm hb hxb hyb).mono ?_
           rintro e w1 ⟨r1, b1, rfl, hr1, hb1, he1, hG1, hO1⟩
           have hL1 := hid (HLd.out.only hO1 (by omega))
           have htk1 := hO1.cell HTK.out NN.out.2.2.1))
      all_goals (try go_wp2)
      all_goals go_roundw
      all_goals first
        | (show L - _ < L - _
           simp [intOf]
           omega)
        | (obtain ⟨q1, q2, q3, q4, q5, q6⟩ := H.out
           have hlz : k < zs.length := by omega
           have hlt2 : k < ts.length := by omega
           have hon1 := Only.set gA w2 k (.int .u32 (r1 : Int))
           have hon2 := Only.set gB (w2.setCell ⟨gA, k, none⟩ (.int .u32 (r1 : Int))) k (.int .u32 (r2 : Int))
           have hzn := hZ2.out.setAt k hlz _ r1 rfl hr1
           have htn := (hT2.out.only hon1 (Ne.symm hne)).setAt k hlt2 _ r2 rfl hr2
           simp only [List.length_nil, Nat.zero_add] at hzn htn
           have d0 : Below base w wr.drew := Below.drew HBEL.out
           have d1 := Below.only d0 hO1 (Nat.le_trans hbs d0.size) (by omega)
           have d2 := Below.only d1 hO2 (Nat.le_trans hbs d1.size) (by omega)
           have d3 := Below.only d2 hon1 (Nat.le_trans hbs d2.size) hgA
           have d4 := Below.only d3 hon2 (Nat.le_trans hbs d3.size) hgB
           have m1' := (mul_bd hp0 hxb).2.2
           have m2' := (mul_bd hm0 hyb).2.2
           have m3' := (mul_bd hp1 hyb).2.2
           have m4' := (mul_bd hm1 hxb).2.2
           refine ⟨k + 1, zs.set k r1, ts.set k r2, (cp + p0 * x) / 4294967296, (cm + m0 * y) / 4294967296, b1, (cp' + p1 * y) / 4294967296, (cm' + m1 * x) / 4294967296, b2, by omega, by go_num, by omega, by omega, hb1, by omega, by omega, hb2, hzn.only hon2 hne, htn,
             ((hG1.only hO2 (by omega)).only hon1 (Ne.symm NN.out.1)).only hon2 (Ne.symm NN.out.2.2.1), (hL2.only hon1 (Ne.symm NN.out.2.1)).only hon2 (Ne.symm NN.out.2.2.2), d4, by rw [set_len]; exact q1, by rw [set_len]; exact q2, set_drop q3, set_drop q4, ?_, ?_⟩
           · rw [set_val hlz, val_take_succ A, val_take_succ B, ← HXY.out.1, ← HXY.out.2, Nat.pow_succ]
             exact diff_step q5 he1
           · rw [set_val hlt2, val_take_succ A, val_take_succ B, ← HXY.out.1, ← HXY.out.2, Nat.pow_succ]
             exact diff_step q6 he2)
    · go_wp2
      go_ret2
      obtain ⟨q1, q2, q3, q4, q5, q6⟩ := H.out
      obtain ⟨f1, f2, f3, f4⟩ := HEND.out
      have hkL : k = L := by omega
      rw [hkL, val_take_all (xs := A) (by rw [HLEN.out.1]; exact Nat.le_refl _), val_take_all (xs := B) (by rw [HLEN.out.2]; exact Nat.le_refl _)] at q5 q6
      rw [val_take_all (by omega)] at q5 q6
      have hz1 := val_lt HZ.out.okMid
      have ht1 := val_lt HT.out.okMid
      rw [q1] at hz1
      rw [q2] at ht1
      exact ⟨zs, ts, rfl, q1, q2, HZ.out, HT.out, diff_done q5 f1 f3 hz1, diff_done q6 f2 f4 ht1, HBEL.out⟩

set_option maxHeartbeats 8000000 in
set_option maxRecDepth 20000 in
theorem walk_odd {w : World} {gA gB L base p0 m0 p1 m1 RG RL : Nat} {A B pA pB : List Nat} (hA : Blk w gA ([] ++ (A ++ pA))) (hB : Blk w gB ([] ++ (B ++ pB))) (hne : gA ≠ gB) (hAl : A.length = L) (hBl : B.length = L) (hL : L ≤ 100000000)
    (hgA : base ≤ gA) (hgB : base ≤ gB) (hp0 : p0 < 4294967296) (hm0 : m0 < 4294967296) (hp1 : p1 < 4294967296) (hm1 : m1 < 4294967296)
    (hG : RG + m0 * val B = p0 * val A) (hLs : RL + m1 * val A = p1 * val B) (hGl : RG < 4294967296 ^ L) (hLl : RL < 4294967296 ^ L) :
    Calls Tryz.prog 97 #[.agg #[.int .u64 m0, .int .u64 p1, .int .u64 p0, .int .u64 m1, .bool true], .slice (some ⟨gB, 0, none⟩) L L, .slice (some ⟨gA, 0, none⟩) L L] w fun e w' => ∃ zs ts : List Nat, e = .returned (.tuple #[.slice (some ⟨gA, 0, none⟩) L L, .slice (some ⟨gB, 0, none⟩) L L]) ∧
      zs.length = L ∧ ts.length = L ∧ Blk w' gA ([] ++ (zs ++ pA)) ∧ Blk w' gB ([] ++ (ts ++ pB)) ∧ val zs = RG ∧ val ts = RL ∧ Below base w w' := by
  have hltA := hA.lt
  have hltB := hB.lt
  have HAB := hid (And.intro hA hB)
  have HEND := hid (And.intro hG (And.intro hLs (And.intro hGl hLl)))
  have hokA := hid hA.okMid
  have hokB := hid hB.okMid
  have HLEN := hid (And.intro hAl hBl)
  have hbs : base ≤ w.heap.size := by omega
  clear hA hB hG hLs hGl hLl hAl hBl
  go_enter Tryz.func97, Tryz.ntmps97
  go_wp2
  go_loopw [40] (fun iv wr => ∃ (k : Nat) (zs ts : List Nat) (cp cm b cp' cm' b' : Nat), k ≤ L ∧ iv = .int .i64 k ∧ cp < 4294967296 ∧ cm < 4294967296 ∧ b ≤ 1 ∧ cp' < 4294967296 ∧ cm' < 4294967296 ∧ b' ≤ 1 ∧
      Blk wr gA ([] ++ (zs ++ pA)) ∧ Blk wr gB ([] ++ (ts ++ pB)) ∧ BlkV wr (w.heap.size + 1) 117 [.int .u64 p0, .int .u64 m0, .int .u64 cp, .int .u64 cm, .int .u64 b] ∧ BlkV wr (w.heap.size + 1 + 1) 117 [.int .u64 p1, .int .u64 m1, .int .u64 cp', .int .u64 cm', .int .u64 b'] ∧
      Below base w wr ∧ zs.length = L ∧ ts.length = L ∧ zs.drop k = A.drop k ∧ ts.drop k = B.drop k ∧
      p0 * val (A.take k) + (b + cm) * 4294967296 ^ k = val (zs.take k) + m0 * val (B.take k) + cp * 4294967296 ^ k ∧
      p1 * val (B.take k) + (b' + cm') * 4294967296 ^ k = val (ts.take k) + m1 * val (A.take k) + cp' * 4294967296 ^ k) (fun iv _ => L - (intOf iv).toNat)
  case atStart =>
    have hf3 := (((Fwd.refl w).alloc (.cells #[.int .u64 p0, .int .u64 m1, .int .u64 m0, .int .u64 p1, .bool true] 107)).alloc (.cells #[.int .u64 p0, .int .u64 m0, .int .u64 0, .int .u64 0, .int .u64 0] 117)).alloc (.cells #[.int .u64 p1, .int .u64 m1, .int .u64 0, .int .u64 0, .int .u64 0] 117)
    refine ⟨0, A, B, 0, 0, 0, 0, 0, 0, by omega, rfl, by omega, by omega, by omega, by omega, by omega, by omega, HAB.out.1.fwd hf3, HAB.out.2.fwd hf3, ?_, ?_, Below.mono hf3 hbs, HLEN.out.1, HLEN.out.2, rfl, rfl, by simp [val], by simp [val]⟩
    · exact (BlkV.made2 w _ _ _).alloc _
    · have := BlkV.made2 (w.alloc (.cells #[.int .u64 p0, .int .u64 m1, .int .u64 m0, .int .u64 p1, .bool true] 107)) 117 (.cells #[.int .u64 p0, .int .u64 m0, .int .u64 0, .int .u64 0, .int .u64 0] 117) [.int .u64 p1, .int .u64 m1, .int .u64 0, .int .u64 0, .int .u64 0]
      simpa using this
  case round =>
    obtain ⟨k, zs, ts, cp, cm, b, cp', cm', b', hk, rfl, hcp, hcm, hb, hcp', hcm', hb', hz, ht, hG, hLs, hbel, hzl, htl, hzd, htd, e1, e2⟩ := hrel
    have H := hid (And.intro hzl (And.intro htl (And.intro hzd (And.intro htd (And.intro e1 e2)))))
    have HZ := hid hz
    have HT := hid ht
    have HG := hid hG
    have HL := hid hLs
    have HBEL := hid hbel
    clear hzl htl hzd htd e1 e2 hz ht hG hLs hbel
    by_cases hlt : k < L
    · have hzk := HZ.out.mid k (by rw [H.out.1]; exact hlt)
      have htk := HT.out.mid k (by rw [H.out.2.1]; exact hlt)
      simp only [List.length_nil, Nat.zero_add] at hzk htk
      rw [getD_of_drop H.out.2.2.1] at hzk
      rw [getD_of_drop H.out.2.2.2.1] at htk
      obtain ⟨x, hx⟩ : ∃ x, x = A.getD k 0 := ⟨_, rfl⟩
      obtain ⟨y, hy⟩ : ∃ y, y = B.getD k 0 := ⟨_, rfl⟩
      have hxb : x < 4294967296 := by rw [hx]; exact hokA.out.getD _
      have hyb : y < 4294967296 := by rw [hy]; exact hokB.out.getD _
      rw [← hx] at hzk
      rw [← hy] at htk
      have HXY := hid (And.intro hx hy)
      clear hx hy
      have nAG : gA ≠ w.heap.size + 1 := by omega
      have nAL : gA ≠ w.heap.size + 1 + 1 := by omega
      have nBG : gB ≠ w.heap.size + 1 := by omega
      have nBL : gB ≠ w.heap.size + 1 + 1 := by omega
      have NN := hid (And.intro nAG (And.intro nAL (And.intro nBG nBL)))
      clear nAG nAL nBG nBL
      have HGd := hid HG.out.drew
      have HLd := hid HL.out.drew
      have HZd := hid HZ.out.drew
      have HTd := hid HT.out.drew
      have HZK := hid (cell_drew hzk)
      have HTK := hid (cell_drew htk)
      go_wp2_with fail
      go_region_with (first
        | (go_at_call 107; refine (next_any hL1.out hp1 hm1 hcp' hcm' hb' hyb hxb).mono ?_
           rintro e w2 ⟨r2, b2, rfl, hr2, hb2, he2, hL2, hO2⟩
           have hZ2 := hid ((HZd.out.only hO1 NN.out.1).only hO2 NN.out.2.1)
           have hT2 := hid ((HTd.out.only hO1 NN.out.2.2.1).only hO2 NN.out.2.2.2)
           have hzf := hZ2.out.frozen k
           have htf := hT2.out.frozen k
           have hzk2 := hO2.cell (hO1.cell HZK.out NN.out.1) NN.out.2.1
           have htk2 := hO2.cell htk1 NN.out.2.2.2)
        | (go_at_call 107; refine (next_any HGd.out hp0 hm0 hcp hcm hb hxb hyb).mono ?_
           rintro e w1 ⟨r1, b1, rfl, hr1, hb1, he1, hG1, hO1⟩
           have hL1 := hid (HLd.out.only hO1 (by omega))
           have htk1 := hO1.cell HTK.out NN.out.2.2.1))
      all_goals (try go_wp2)
      all_goals go_roundw
      all_goals first
        | (show L - _ < L - _
           simp [intOf]
           omega)
        | (obtain ⟨q1, q2, q3, q4, q5, q6⟩ := H.out
           have hlz : k < zs.length := by omega
           have hlt2 : k < ts.length := by omega
           have hon1 := Only.set gA w2 k (.int .u32 (r1 : Int))
           have hon2 := Only.set gB (w2.setCell ⟨gA, k, none⟩ (.int .u32 (r1 : Int))) k (.int .u32 (r2 : Int))
           have hzn := hZ2.out.setAt k hlz _ r1 rfl hr1
           have htn := (hT2.out.only hon1 (Ne.symm hne)).setAt k hlt2 _ r2 rfl hr2
           simp only [List.length_nil, Nat.zero_add] at hzn htn
           have d0 : Below base w wr.drew := Below.drew HBEL.out
           have d1 := Below.only d0 hO1 (Nat.le_trans hbs d0.size) (by omega)
           have d2 := Below.only d1 hO2 (Nat.le_trans hbs d1.size) (by omega)
           have d3 := Below.only d2 hon1 (Nat.le_trans hbs d2.size) hgA
           have d4 := Below.only d3 hon2 (Nat.le_trans hbs d3.size) hgB
           have m1' := (mul_bd hp0 hxb).2.2
           have m2' := (mul_bd hm0 hyb).2.2
           have m3' := (mul_bd hp1 hyb).2.2
           have m4' := (mul_bd hm1 hxb).2.2
           refine ⟨k + 1, zs.set k r1, ts.set k r2, (cp + p0 * x) / 4294967296, (cm + m0 * y) / 4294967296, b1, (cp' + p1 * y) / 4294967296, (cm' + m1 * x) / 4294967296, b2, by omega, by go_num, by omega, by omega, hb1, by omega, by omega, hb2, hzn.only hon2 hne, htn,
             ((hG1.only hO2 (by omega)).only hon1 (Ne.symm NN.out.1)).only hon2 (Ne.symm NN.out.2.2.1), (hL2.only hon1 (Ne.symm NN.out.2.1)).only hon2 (Ne.symm NN.out.2.2.2), d4, by rw [set_len]; exact q1, by rw [set_len]; exact q2, set_drop q3, set_drop q4, ?_, ?_⟩
           · rw [set_val hlz, val_take_succ A, val_take_succ B, ← HXY.out.1, ← HXY.out.2, Nat.pow_succ]
             exact diff_step q5 he1
           · rw [set_val hlt2, val_take_succ A, val_take_succ B, ← HXY.out.1, ← HXY.out.2, Nat.pow_succ]
             exact diff_step q6 he2)
    · go_wp2
      go_ret2
      obtain ⟨q1, q2, q3, q4, q5, q6⟩ := H.out
      obtain ⟨f1, f2, f3, f4⟩ := HEND.out
      have hkL : k = L := by omega
      rw [hkL, val_take_all (xs := A) (by rw [HLEN.out.1]; exact Nat.le_refl _), val_take_all (xs := B) (by rw [HLEN.out.2]; exact Nat.le_refl _)] at q5 q6
      rw [val_take_all (by omega)] at q5 q6
      have hz1 := val_lt HZ.out.okMid
      have ht1 := val_lt HT.out.okMid
      rw [q1] at hz1
      rw [q2] at ht1
      exact ⟨zs, ts, rfl, q1, q2, HZ.out, HT.out, diff_done q5 f1 f3 hz1, diff_done q6 f2 f4 ht1, HBEL.out⟩

end Go.Proofs.YtcfhajnboamnnaaGreatDoor

namespace Go.Proofs.YtcfhajnboamnnaaGreatDoor
open Go.RowKit
set_option linter.unusedVariables false

theorem Fwd.toBelow {w w' : World} {base : Nat} (h : Fwd w w') (hb : base ≤ w.heap.size) : Below base w w' := Below.mono h hb

set_option maxHeartbeats 4000000 in
set_option maxRecDepth 20000 in
theorem oneStep_any {w : World} {gx L base : Nat} {xs px ys : List Nat} {vy : Value} (hx : Blk w gx ([] ++ (xs ++ px))) (hxl : xs.length = L) (hL : L ≤ 10000000) (hy : Rd w vy ys) (hyl : ys.length ≤ 10000000) (hy0 : val ys ≠ 0) (hgx : base ≤ gx) :
    Calls Tryz.prog 96 #[.slice (some ⟨gx, 0, none⟩) L L, vy] w fun e w' => ∃ zs : List Nat, e = .returned (.tuple #[vy, .slice (some ⟨gx, 0, none⟩) L L]) ∧ zs.length = L ∧ Blk w' gx ([] ++ (zs ++ px)) ∧ val zs = val xs % val ys ∧ Below base w w' ∧ ∀ b L', b ≠ gx → Blk w b L' → Blk w' b L' := by
  subst hxl
  have hrx : Rd w (.slice (some ⟨gx, 0, none⟩) xs.length xs.length) xs := Blk.rd hx _ (Nat.le_refl _) (le_maxLen (by omega))
  have hxn := nl_val_le hrx.ok
  have hyn := nl_val_le hy.ok
  have hbs : base ≤ w.heap.size := by have := hx.lt; omega
  have HX := hid hx
  have HY0 := hid hy0
  clear hx hy0
  obtain ⟨M, hM⟩ : ∃ M, M = val xs % val ys := ⟨_, rfl⟩
  rw [← hM]
  have HM := hid hM
  clear hM
  go_enter Tryz.func96, Tryz.ntmps96
  go_wp2_with fail
  refine (trim_any hrx).mono ?_
  rintro e w1 ⟨v1, rfl, hn1, _, rfl⟩
  go_wp2_with fail
  refine (trim_any hy).mono ?_
  rintro e w1 ⟨v2, rfl, hn2, _, rfl⟩
  go_wp2_with fail
  refine (divide_any hn1 hn2 (by omega) (by omega) HY0.out).mono ?_
  rintro e w1 ⟨q, r, rfl, hq, hr, hf1⟩
  rw [← HM.out] at hr
  have hM := HM.out
  have hMl : nl M ≤ xs.length := by
    have h1 : M ≤ val xs := by rw [hM]; exact Nat.mod_le _ _
    have := nl_mono h1
    omega
  have HX1 := hid (HX.out.fwd hf1)
  have HR : Hid (Rd w1 r (lim M)) := hid hr
  have HF1 := hid (hf1.toBelow hbs)
  have HFW := hid hf1
  have hbs1 := hf1.size
  clear hq hr hf1 hn1 hn2 hrx hy hM
  go_wp2_with (with_reducible refine law_copyM (by with_unfolding_all rfl) (.tmp 17) (.tmp 18) (by with_unfolding_all rfl) gx 0 xs.length xs.length _ (by with_unfolding_all rfl) (by with_unfolding_all rfl) [] xs px (lim M) HX1.out rfl rfl HR.out ?_)
  intro w2 hb2 ho2
  have hlm : (lim M).length = nl M := rfl
  have hmin : min (nl M) xs.length = nl M := by omega
  rw [hlm, hmin]
  have HB2 : Hid (Blk w2 gx (lim M ++ (xs.drop (nl M) ++ px))) := by
    rw [List.take_of_length_le (by rw [hlm]; exact hMl), hlm] at hb2
    exact hid (by simpa using hb2)
  have HO2 := hid ho2
  clear hb2 ho2 hlm hmin
  by_cases h0 : nl M = xs.length
  · have HE := hid h0
    go_wp2_with (with_reducible refine law_clear (by with_unfolding_all rfl) (.tmp 20) (by with_unfolding_all rfl) gx 0 0 0 (by with_unfolding_all rfl) [] [] (lim M ++ (xs.drop (nl M) ++ px)) (by simpa using HB2.out) rfl rfl ?_)
    intro w3 hb3 ho3
    go_wp2
    go_ret2
    refine ⟨lim M, rfl, HE.out, ?_, val_lim _, ?_, ?_⟩
    · have : xs.drop (nl M) = [] := List.drop_eq_nil_of_le (by rw [HE.out]; exact Nat.le_refl _)
      first | (rw [this] at hb3; simpa using hb3) | simpa using hb3
    · have d1 := Below.only HF1.out HO2.out (by omega) hgx
      exact Below.only d1 ho3 (Nat.le_trans hbs d1.size) hgx
    · intro b L' hne hb
      exact ((hb.fwd HFW.out).only HO2.out hne).only ho3 hne
  · have hlt : nl M < xs.length := by omega
    clear h0
    have hlt2 : (nl M : Int) < xs.length := by omega
    go_wp2_with (with_reducible refine law_clear (by with_unfolding_all rfl) (.tmp 20) (by with_unfolding_all rfl) gx (nl M) (xs.length - nl M) (xs.length - nl M) (by with_unfolding_all rfl) (lim M) (xs.drop (nl M)) px HB2.out rfl (by rw [List.length_drop]) ?_)
    intro w3 hb3 ho3
    go_wp2
    go_ret2
    refine ⟨lim M ++ List.replicate (xs.length - nl M) 0, rfl, ?_, ?_, ?_, ?_, ?_⟩
    · rw [List.length_append, List.length_replicate]; show nl M + _ = _; omega
    · first | simpa using hb3 | (rw [List.length_drop] at hb3; simpa using hb3)
    · rw [val_append, val_replicate, val_lim]; simp
    · have d1 := Below.only HF1.out HO2.out (by omega) hgx
      exact Below.only d1 ho3 (Nat.le_trans hbs d1.size) hgx
    · intro b L' hne hb
      exact ((hb.fwd HFW.out).only HO2.out hne).only ho3 hne

/-- What a round of Lehmer's way leaves. -/
def Lessened (w w' : World) (base gx gy L X Y : Nat) (px py : List Nat) (e : Ending) : Prop :=
  ∃ (gA gB R P : Nat) (zs ts pA pB : List Nat), e = .returned (.tuple #[.slice (some ⟨gA, 0, none⟩) L L, .slice (some ⟨gB, 0, none⟩) L L]) ∧ gA ≠ gB ∧ base ≤ gA ∧ base ≤ gB ∧ zs.length = L ∧ ts.length = L ∧
    Blk w' gA ([] ++ (zs ++ pA)) ∧ Blk w' gB ([] ++ (ts ++ pB)) ∧ val zs = R ∧ val ts = P ∧ P ≤ R ∧ R + P < X + Y ∧ Nat.gcd R P = Nat.gcd X Y ∧ Below base w w'

theorem shift_room {X : Nat} (h : 2 < nl X) : 64 < blen X ∧ blen X ≤ 32 * nl X ∧ X / 2 ^ (blen X - 64) < 18446744073709551616 := by
  have h1 : ¬ blen X ≤ 64 := by
    intro h2
    have h3 := (blen_le_iff X 64).1 h2
    have h4 := (nl_le_iff X 2).2 (by have : (4294967296 : Nat) ^ 2 = 2 ^ 64 := by decide
                                     omega)
    omega
  refine ⟨by omega, blen_nl X, ?_⟩
  rw [Nat.div_lt_iff_lt_mul (Nat.two_pow_pos _)]
  have h2 := (blen_le_iff X (blen X)).1 (Nat.le_refl _)
  have e : 2 ^ blen X = 18446744073709551616 * 2 ^ (blen X - 64) := by
    rw [show (18446744073709551616 : Nat) = 2 ^ 64 by decide, ← Nat.pow_add]; congr 1; omega
  omega

set_option maxHeartbeats 8000000 in
set_option maxRecDepth 20000 in
theorem lessen_any {w : World} {gx gy L base X Y : Nat} {px py ys : List Nat} (hx : Blk w gx ([] ++ (lim X ++ px))) (hy : Blk w gy ([] ++ (ys ++ py))) (hne : gx ≠ gy) (hXl : nl X = L) (hyl : ys.length = L) (hY : val ys = Y) (hL : L ≤ 10000000) (hle : Y ≤ X) (h2 : 2 < nl Y) (hgx : base ≤ gx) (hgy : base ≤ gy) :
    Calls Tryz.prog 85 #[.slice (some ⟨gx, 0, none⟩) L L, .slice (some ⟨gy, 0, none⟩) L L] w fun e w' => Lessened w w' base gx gy L X Y px py e := by
  have hXL : (lim X).length = L := hXl
  have hrx : Rd w (.slice (some ⟨gx, 0, none⟩) L L) (lim X) := by
    have := Blk.rd hx L (by omega) (le_maxLen (by omega))
    rwa [hXL] at this
  have hry : Rd w (.slice (some ⟨gy, 0, none⟩) L L) ys := by
    have := Blk.rd hy L (by omega) (le_maxLen (by omega))
    rwa [hyl] at this
  have hnX := nl_mono hle
  obtain ⟨hs1, hs2, hs3⟩ := shift_room (X := X) (by omega)
  obtain ⟨sh, hsh⟩ : ∃ sh, blen X = sh + 64 := ⟨blen X - 64, by omega⟩
  have esh : (blen X : Int) - 64 = (sh : Int) := by omega
  have hsh0 : sh ≤ 1000000000 := by omega
  rw [show blen X - 64 = sh by omega] at hs3
  have hbs : base ≤ w.heap.size := by have := hx.lt; omega
  have hY0 : Y ≠ 0 := by
    intro e
    rw [e, nl_zero] at h2; omega
  have hYs : Y / 2 ^ sh < 18446744073709551616 := Nat.lt_of_le_of_lt (Nat.div_le_div_right hle) hs3
  have HXB := hid hx
  have HYB := hid hy
  have HF := hid (fun w => foresee_any w (X := X) (Y := Y) (H := 2 ^ sh) (xl := X % 2 ^ sh) (yl := Y % 2 ^ sh) (a := X / 2 ^ sh) (b := Y / 2 ^ sh)
    (by rw [Nat.mul_comm]; exact (Nat.div_add_mod _ _).symm) (by rw [Nat.mul_comm]; exact (Nat.div_add_mod _ _).symm) (Nat.mod_lt _ (Nat.two_pow_pos _)) (Nat.mod_lt _ (Nat.two_pow_pos _)) (Nat.div_le_div_right hle) hs3)
  have HBX := hid (fun w' (hf : Fwd w w') => bitsFrom_any (hrx.fwd hf) sh (by rw [hXL]; omega) (by omega))
  have HBY := hid (fun w' (hf : Fwd w w') => bitsFrom_any (hry.fwd hf) sh (by rw [hyl]; omega) (by omega))
  rw [val_lim, Nat.mod_eq_of_lt hs3] at HBX
  rw [hY, Nat.mod_eq_of_lt hYs] at HBY
  have HALL := hid (And.intro hXl (And.intro hyl (And.intro hY (And.intro hle (And.intro hY0 hsh)))))
  have hnum : Num w (.slice (some ⟨gx, 0, none⟩) L L) X := hrx
  clear hx hy hrx hXl hyl hY hle h2 hnX hs1 hs2 hs3 hY0 hYs hsh hXL
  go_enter Tryz.func85, Tryz.ntmps85
  go_wp2_with fail
  refine (bits_any hnum (by rw [HALL.out.1]; omega)).mono ?_
  rintro e w1 ⟨rfl, hf1⟩
  go_wp2_with fail
  refine (HBX.out w1 hf1).mono ?_
  rintro e w2 ⟨rfl, hf2⟩
  go_wp2_with fail
  refine (HBY.out w2 (hf1.trans hf2)).mono ?_
  rintro e w3 ⟨rfl, hf3⟩
  go_wp2_with fail
  refine (HF.out w3).mono ?_
  rintro e w4 ⟨u0, u1, v0, v1, odd, rfl, hf4, hcase⟩
  have hFW := ((hf1.trans hf2).trans hf3).trans hf4
  clear hf1 hf2 hf3 hf4 HBX HBY HF hnum hry
  have hF5 := hid (hFW.alloc (.cells #[.int .u64 (u0 : Int), .int .u64 (u1 : Int), .int .u64 (v0 : Int), .int .u64 (v1 : Int), .bool odd] 107))
  have HC := hid hcase
  clear hcase hFW
  by_cases hv0 : v0 = 0
  · subst hv0
    go_wp2_with fail
    have hx5 := HXB.out.fwd hF5.out
    have hy5 := HYB.out.fwd hF5.out
    obtain ⟨a1, a2, a3, a4, a5, a6⟩ := HALL.out
    have hry5 := Blk.rd hy5 L (by omega) (le_maxLen (by omega))
    rw [a2] at hry5
    refine (oneStep_any hx5 a1 hL hry5 (by omega) (by rw [a3]; exact a5) hgx).mono ?_
    rintro e w6 ⟨zs, rfl, hzl, hbz, hvz, hbel, hfr⟩
    rw [val_lim, a3] at hvz
    have hgy6 := hfr gy _ (Ne.symm hne) hy5
    have HB6 := hid ((hF5.out.toBelow hbs).trans hbel)
    have HALL2 := hid (And.intro hzl (And.intro hbz (And.intro hvz hgy6)))
    clear hzl hbz hvz hbel hfr hgy6 hx5 hy5 hry5 a1 a2 a3 a4 a5 a6
    go_wp2
    go_ret2
    obtain ⟨a1, a2, a3, a4, a5, a6⟩ := HALL.out
    obtain ⟨b1, b2, b3, b4⟩ := HALL2.out
    have hml : X % Y < Y := Nat.mod_lt _ (Nat.pos_of_ne_zero a5)
    exact ⟨gy, gx, Y, X % Y, ys, zs, py, px, rfl, Ne.symm hne, hgy, hgx, a2, b1, b4, b2, a3, b3, by omega, by omega, by rw [Nat.gcd_comm Y, ← Nat.gcd_rec, Nat.gcd_comm], HB6.out⟩
  · have hv1 : ((v0 : Int) == 0) = false := by simp; omega
    obtain ⟨f1, f2, f3, f4, R, P, f5, f6, f7, f8⟩ : Foreseen X Y odd u0 u1 v0 v1 := by
      rcases HC.out with h | h
      · exact absurd h hv0
      · exact h
    have hpw := lt_pow_nl X
    rw [HALL.out.1] at hpw
    clear hv0
    cases odd
    · simp only [Bool.false_eq_true, if_false] at f8
      have F := hid (And.intro f5 (And.intro f6 (And.intro f7 (And.intro f8 hpw))))
      clear f5 f6 f7 f8 hpw
      go_wp2_with fail
      have hx5 := HXB.out.fwd hF5.out
      have hy5 := HYB.out.fwd hF5.out
      obtain ⟨a1, a2, a3, a4, a5, a6⟩ := HALL.out
      obtain ⟨g5, g6, g7, g8, gpw⟩ := F.out
      refine (walk_even (base := base) (RG := R) (RL := P) hx5 hy5 hne a1 a2 (by omega) hgx hgy f1 f3 f4 f2 (by rw [val_lim, a3]; exact g8.1) (by rw [val_lim, a3]; exact g8.2) (Nat.lt_of_le_of_lt (by omega) gpw) (Nat.lt_of_le_of_lt (by omega) gpw)).mono ?_
      rintro e w6 ⟨zs, ts, rfl, hzl, htl, hbz, hbt, hvz, hvt, hbel⟩
      have HB6 := hid ((hF5.out.toBelow hbs).trans hbel)
      have HALL2 := hid (And.intro hzl (And.intro htl (And.intro hbz (And.intro hbt (And.intro hvz hvt)))))
      clear hzl htl hbz hbt hvz hvt hbel hx5 hy5 a1 a2 a3 a4 a5 a6 g5 g6 g7 g8 gpw
      go_wp2
      go_ret2
      obtain ⟨a1, a2, a3, a4, a5, a6⟩ := HALL.out
      obtain ⟨b1, b2, b3, b4, b5, b6⟩ := HALL2.out
      obtain ⟨g5, g6, g7, g8, gpw⟩ := F.out
      exact ⟨gx, gy, R, P, zs, ts, px, py, rfl, hne, hgx, hgy, b1, b2, b3, b4, b5, b6, g5, by omega, g7, HB6.out⟩
    · simp only [if_true] at f8
      have F := hid (And.intro f5 (And.intro f6 (And.intro f7 (And.intro f8 hpw))))
      clear f5 f6 f7 f8 hpw
      go_wp2_with fail
      have hx5 := HXB.out.fwd hF5.out
      have hy5 := HYB.out.fwd hF5.out
      obtain ⟨a1, a2, a3, a4, a5, a6⟩ := HALL.out
      obtain ⟨g5, g6, g7, g8, gpw⟩ := F.out
      refine (walk_odd (base := base) (RG := R) (RL := P) hy5 hx5 (Ne.symm hne) a2 a1 (by omega) hgy hgx f3 f1 f2 f4 (by rw [val_lim, a3]; exact g8.1) (by rw [val_lim, a3]; exact g8.2) (Nat.lt_of_le_of_lt (by omega) gpw) (Nat.lt_of_le_of_lt (by omega) gpw)).mono ?_
      rintro e w6 ⟨zs, ts, rfl, hzl, htl, hbz, hbt, hvz, hvt, hbel⟩
      have HB6 := hid ((hF5.out.toBelow hbs).trans hbel)
      have HALL2 := hid (And.intro hzl (And.intro htl (And.intro hbz (And.intro hbt (And.intro hvz hvt)))))
      clear hzl htl hbz hbt hvz hvt hbel hx5 hy5 a1 a2 a3 a4 a5 a6 g5 g6 g7 g8 gpw
      go_wp2
      go_ret2
      obtain ⟨a1, a2, a3, a4, a5, a6⟩ := HALL.out
      obtain ⟨b1, b2, b3, b4, b5, b6⟩ := HALL2.out
      obtain ⟨g5, g6, g7, g8, gpw⟩ := F.out
      exact ⟨gy, gx, R, P, zs, ts, py, px, rfl, Ne.symm hne, hgy, hgx, b1, b2, b3, b4, b5, b6, g5, by omega, g7, HB6.out⟩

end Go.Proofs.YtcfhajnboamnnaaGreatDoor

namespace Go.Proofs.YtcfhajnboamnnaaGreatDoor
open Go.RowKit
set_option linter.unusedVariables false

set_option maxHeartbeats 4000000 in
theorem gcdShort_any {w : World} {x y : Value} {X Y : Nat} (hx : Num w x X) (hy : Num w y Y) (hX : nl X ≤ 10000000) (hY : nl Y ≤ 2) :
    Calls Tryz.prog 86 #[x, y] w fun e w' => ∃ v, e = .returned v ∧ Num w' v (Nat.gcd X Y) ∧ Fwd w w' := by
  obtain ⟨bo, cb, rfl, hcb, hcmb, hcellb⟩ := hy.parts
  unfold maxLen at hcmb
  clear hcellb
  by_cases h0 : Y = 0
  · have h1 : nl Y = 0 := by rw [h0, nl_zero]
    have H0 := hid h0
    rw [h1]
    clear h0
    go_enter Tryz.func86, Tryz.ntmps86
    go_wp2
    go_ret
    refine ⟨_, rfl, ?_, Fwd.refl _⟩
    rw [H0.out, Nat.gcd_zero_right]; exact hx
  · have hpos : 0 < nl Y := by rw [nl_pos h0]; omega
    have hne : ((nl Y : Int) == 0) = false := by simp; omega
    have H0 := hid h0
    have hYb : Y < 18446744073709551616 := nl_le_two.1 hY
    have hml : X % Y < Y := Nat.mod_lt _ (Nat.pos_of_ne_zero h0)
    have hmb : X % Y < 18446744073709551616 := by omega
    have HSY : Hid (smallV Y = .tuple #[.int .u64 Y, .bool true]) := hid (by rw [smallV, if_pos hYb])
    have HSM : Hid (smallV (X % Y) = .tuple #[.int .u64 (X % Y : Nat), .bool true]) := hid (by rw [smallV, if_pos hmb])
    have hnm : nl (X % Y) ≤ 2 := nl_le_two.2 hmb
    have HST : Hid (Nat.gcd Y (X % Y) = Nat.gcd X Y) := hid (by rw [Nat.gcd_comm Y, ← Nat.gcd_rec, Nat.gcd_comm])
    clear h0
    go_enter Tryz.func86, Tryz.ntmps86
    go_wp2_with fail
    refine (divide_any hx hy hX (by omega) H0.out).mono ?_
    rintro e w1 ⟨q, r, rfl, hq, hr, hf1⟩
    have hy1 := hy.fwd hf1
    go_wp2_with fail
    refine (small_any hy1 (by omega)).mono ?_
    rintro e w2 ⟨rfl, hf2⟩
    rw [HSY.out]
    have hr2 := hr.fwd hf2
    go_wp2_with fail
    refine (small_any hr2 (by omega)).mono ?_
    rintro e w3 ⟨rfl, hf3⟩
    rw [HSM.out]
    have HF := hid ((hf1.trans hf2).trans hf3)
    clear hf1 hf2 hf3 hq hr hr2 hy1 hx hy HSY HSM
    generalize X % Y = M at *
    go_wp2
    go_loopw [7, 9] (fun u v wr => ∃ U V : Nat, u = .int .u64 U ∧ v = .int .u64 V ∧ U < 18446744073709551616 ∧ V < 18446744073709551616 ∧ Nat.gcd U V = Nat.gcd X Y ∧ Fwd w wr) (fun _ v _ => (intOf v).toNat)
    case atStart => exact ⟨Y, M, rfl, rfl, hYb, hmb, HST.out, HF.out⟩
    case round =>
      obtain ⟨U, V, rfl, rfl, hU, hV, hg, hfw⟩ := hrel
      have HG := hid hg
      clear hg
      by_cases hv0 : V = 0
      · subst hv0
        go_wp2_with fail
        refine (of_any _ U hU).mono ?_
        rintro e w4 ⟨v, rfl, hv, hf4⟩
        go_wp2
        go_ret
        refine ⟨_, rfl, ?_, hfw.trans hf4⟩
        rw [← HG.out, Nat.gcd_zero_right]; exact hv
      · have hvn : ((V : Int) == 0) = false := by simp; omega
        have hvn2 : ((V : Int) != 0) = true := by simp; omega
        have hUi := u64_le hU
        have hVi := u64_le hV
        have HV0 := hid hv0
        have hv0p : 0 < V := Nat.pos_of_ne_zero hv0
        have hmod := Nat.mod_lt U hv0p
        have er0 : (U : Int) % (V : Int) = ((U % V : Nat) : Int) := (Int.natCast_emod _ _).symm
        obtain ⟨r, hr⟩ : ∃ r, r = U % V := ⟨_, rfl⟩
        rw [← hr] at hmod er0
        have br : (r : Int) ≤ 18446744073709551615 := by omega
        have HRR := hid hr
        clear hv0 hr
        go_wp2_with fail
        go_quiet (fail)
        go_wp2
        go_roundw
        case rel =>
          refine ⟨V, r, rfl, by first | rfl | rw [er0], hV, by omega, ?_, hfw.drewN _⟩
          rw [← HG.out, HRR.out, Nat.gcd_comm V, ← Nat.gcd_rec, Nat.gcd_comm]
        case measure =>
          first | rw [er0] | skip
          simp only [intOf, Int.toNat_natCast]; omega

end Go.Proofs.YtcfhajnboamnnaaGreatDoor

namespace Go.Proofs.YtcfhajnboamnnaaGreatDoor
open Go.RowKit
set_option linter.unusedVariables false

/-- The number that v reads as. -/
theorem valOf_ex : ∃ f : World → Value → Nat, ∀ (w : World) (v : Value) (xs : List Nat), Rd w v xs → f w v = val xs := by
  classical
  refine ⟨fun w v => if h : ∃ xs, Rd w v xs then val h.choose else 0, fun w v xs h => ?_⟩
  have hx : ∃ xs, Rd w v xs := ⟨xs, h⟩
  show (if h : ∃ xs, Rd w v xs then val h.choose else 0) = val xs
  rw [dif_pos hx]
  exact congrArg val (Rd.inj hx.choose_spec h)
theorem Blk.rdLen {w : World} {g n : Nat} {xs post : List Nat} (h : Blk w g ([] ++ (xs ++ post))) (hl : xs.length = n) (hn : n ≤ 1000000000) : Rd w (.slice (some ⟨g, 0, none⟩) n n) xs := by
  have := Blk.rd h n (by omega) (le_maxLen (by omega))
  rwa [hl] at this

set_option maxHeartbeats 8000000 in
set_option maxRecDepth 20000 in
theorem gcd_ge {w : World} {a b : Value} {m n : Nat} (ha : Num w a m) (hb : Num w b n) (hm : nl m ≤ 1000000) (hn : nl n ≤ 1000000) (hle : n ≤ m) :
    Calls Tryz.prog 72 #[a, b] w fun e w' => ∃ v, e = .returned v ∧ Num w' v (Nat.gcd m n) ∧ Fwd w w' := by
  have hnl : nl n ≤ nl m := nl_mono (by omega)
  have hcm : decide (cmpW (m : Int) (n : Int) < 0) = false := by
    apply decide_eq_false
    rcases Nat.lt_or_ge n m with h | h
    · rw [cmpI_gt (by omega)]; omega
    · rw [cmpI_eq (by omega)]; omega
  have HLE := hid hle
  clear hle
  obtain ⟨valOf, hq0⟩ := valOf_ex
  have VQ := hid hq0
  clear hq0
  go_enter Tryz.func72, Tryz.ntmps72
  go_wp2_with fail
  refine (trim_num ha).mono ?_
  rintro e w1 ⟨va, rfl, hna, _, rfl⟩
  go_wp2_with fail
  refine (trim_num hb).mono ?_
  rintro e w1 ⟨vb, rfl, hnb, _, rfl⟩
  clear ha hb
  obtain ⟨ao, ca, rfl, hca, hcma, hcella⟩ := hna.parts
  obtain ⟨bo, cb, rfl, hcb, hcmb, hcellb⟩ := hnb.parts
  unfold maxLen at hcma hcmb
  clear hcella hcellb
  go_wp2_with fail
  refine (cmp_any hna hnb (by omega) (by omega)).mono ?_
  rintro e w1 ⟨rfl, hf1⟩
  have hna1 := hna.fwd hf1
  have hnb1 := hnb.fwd hf1
  clear hna hnb
  go_wp2_with fail
  refine (clone_any hna1 (show nl m ≤ _ by omega)).mono ?_
  rintro e w2 ⟨rfl, hbk, hf2⟩
  have hsm2 := hnb1.fwd hf2
  have hel : (lim m).length = nl m := rfl
  rw [hel]
  have hes : (lim n).length = nl n := rfl
  have hsub : ((nl m : Int) - (nl n : Int)).toNat = nl m - nl n := by omega
  go_wp2_with fail
  refine (widen_any ((nl m : Int) - (nl n : Int)) hsm2 (by omega) (by rw [hes, hsub]; omega)).mono ?_
  rintro e w3 ⟨mm, hmm, rfl, hbw, hf3⟩
  rw [hes, hsub] at hmm
  have hmm2 : mm = nl m := by omega
  subst hmm2
  rw [hsub] at hbw
  have HB1 := hid (hbk.fwd hf3)
  have HB2 := hid hbw
  have HF3 := hid ((hf1.trans hf2).trans hf3)
  have hsz : w.heap.size ≤ w1.heap.size := hf1.size
  have hsz2 : w1.heap.size < w2.heap.size := hbk.lt
  clear hbk hbw hf1 hf2 hf3 hna1 hnb1 hsm2 hel hes hsub hmm
  go_wp2
  go_loopw [5, 6] (fun x y wr => ∃ (gx gy X Y : Nat) (px py ys : List Nat), x = .slice (some ⟨gx, 0, none⟩) (nl X) (nl X) ∧ y = .slice (some ⟨gy, 0, none⟩) (nl X) (nl X) ∧ gx ≠ gy ∧ w.heap.size ≤ gx ∧ w.heap.size ≤ gy ∧ nl X ≤ 1000000 ∧
      Blk wr gx ([] ++ (lim X ++ px)) ∧ Blk wr gy ([] ++ (ys ++ py)) ∧ ys.length = nl X ∧ val ys = Y ∧ Y ≤ X ∧ Nat.gcd X Y = Nat.gcd m n ∧ Below w.heap.size w wr) (fun x y wr => valOf wr x + valOf wr y)
  case atStart =>
    refine ⟨w1.heap.size, w2.heap.size, m, n, [], [], lim n ++ List.replicate (nl m - nl n) 0, rfl, rfl, by omega, by omega, by omega, by omega, by simpa using HB1.out, by simpa using HB2.out, ?_, ?_, by have := HLE.out; omega, rfl, HF3.out⟩
    · rw [List.length_append, List.length_replicate]; show nl n + _ = _; omega
    · rw [val_append, val_replicate, val_lim]; simp
  case round =>
    obtain ⟨gx, gy, X, Y, px, py, ys, rfl, rfl, hne, hgx, hgy, hXb, hbx, hby, hyl, hvy, hYX, hgc, hbel⟩ := hrel
    have hsx := hbx.rdLen (show (lim X).length = nl X from rfl) (by omega)
    have hsy := hby.rdLen hyl (by omega)
    have HMX := hid (VQ.out _ _ _ hsx)
    have HMY := hid (VQ.out _ _ _ hsy)
    have hYn : nl Y ≤ nl X := nl_mono hYX
    have H := hid (And.intro hbx (And.intro hby (And.intro hyl (And.intro hvy (And.intro hYX (And.intro hgc hbel))))))
    have hnx : Num wr (.slice (some ⟨gx, 0, none⟩) (nl X) (nl X)) X := hsx
    have hT : Calls Tryz.prog 67 #[.slice (some ⟨gy, 0, none⟩) (nl X) (nl X)] wr fun e w' => e = .returned (.slice (some ⟨gy, 0, none⟩) (nl Y) (nl Y)) ∧ wr = w' := by
      have := trim_row (len := nl X) (off := 0) (cap := nl X) hby hyl.symm rfl (by omega) (le_maxLen (by omega))
      rwa [hvy] at this
    have HT := hid hT
    have hny : Num wr (.slice (some ⟨gy, 0, none⟩) (nl Y) (nl Y)) Y := by
      have h1 := take_nl hsy.ok
      rw [hvy] at h1
      have h2 : Blk wr gy ([] ++ (lim Y ++ (ys.drop (nl Y) ++ py))) := by
        rw [← List.append_assoc (lim Y), ← h1]; exact hby
      exact h2.rdLen rfl (by omega)
    have HNY := hid hny
    clear hbx hby hyl hvy hYX hgc hbel hsx hsy hT hny
    go_wp2_with fail
    refine HT.out.mono ?_
    rintro e w4 ⟨rfl, rfl⟩
    by_cases h2 : 2 < nl Y
    · go_wp2_with fail
      obtain ⟨q1, q2, q3, q4, q5, q6, q7⟩ := H.out
      refine (lessen_any (base := w.heap.size) q1 q2 hne rfl q3 q4 (by omega) q5 h2 hgx hgy).mono ?_
      rintro e w5 ⟨gA, gB, R, P, zs, ts, pA, pB, rfl, hneAB, hgA, hgB, hzl, htl, hbz, hbt, hvz, hvt, hPR, hsum, hgcd, hbel5⟩
      have hT5 : Calls Tryz.prog 67 #[.slice (some ⟨gA, 0, none⟩) (nl X) (nl X)] w5 fun e w' => e = .returned (.slice (some ⟨gA, 0, none⟩) (nl R) (nl R)) ∧ w5 = w' := by
        have := trim_row (len := nl X) (off := 0) (cap := nl X) hbz hzl.symm rfl (by omega) (le_maxLen (by omega))
        rwa [hvz] at this
      have hRL : nl R ≤ nl X := by
        have := nl_val_le hbz.okMid
        rw [hvz, hzl] at this; exact this
      have HT5 := hid hT5
      have HB5 := hid (q7.trans hbel5)
      have HGC := hid (hgcd.trans q6)
      have H5 := hid (And.intro hzl (And.intro htl (And.intro hbz (And.intro hbt (And.intro hvz hvt)))))
      have HPR := hid hPR
      have HSUM := hid hsum
      clear q1 q2 q3 q4 q5 q6 q7 hzl htl hbz hbt hvz hvt hT5 hgcd hbel5 hPR hsum HT HNY hnx
      go_wp2_with fail
      refine HT5.out.mono ?_
      rintro e w6 ⟨rfl, rfl⟩
      have HEX : Hid (∃ (pA' pB' ts' : List Nat), Blk w5 gA ([] ++ (lim R ++ pA')) ∧ Blk w5 gB ([] ++ (ts' ++ pB')) ∧ ts'.length = nl R ∧ val ts' = P) := by
        obtain ⟨hzl, htl, hbz, hbt, hvz, hvt⟩ := H5.out
        have h1 := take_nl hbz.okMid
        rw [hvz] at h1
        refine hid ⟨zs.drop (nl R) ++ pA, ts.drop (nl R) ++ pB, ts.take (nl R), ?_, ?_, ?_, ?_⟩
        · rw [← List.append_assoc (lim R), ← h1]; exact hbz
        · rw [← List.append_assoc (ts.take _), List.take_append_drop]; exact hbt
        · rw [List.length_take]; omega
        · rw [small_take (by rw [hvt]; exact Nat.lt_of_le_of_lt HPR.out (lt_pow_nl R)) (by omega)]; exact hvt
      go_wp2
      go_roundw
      case rel =>
        obtain ⟨pA', pB', ts', k1, k2, k3, k4⟩ := HEX.out
        exact ⟨gA, gB, R, P, pA', pB', ts', rfl, rfl, hneAB, hgA, hgB, by omega, k1, k2, k3, k4, HPR.out, HGC.out, HB5.out⟩
      case measure =>
        obtain ⟨pA', pB', ts', k1, k2, k3, k4⟩ := HEX.out
        obtain ⟨q1, q2, q3, q4, q5, q6, q7⟩ := H.out
        show valOf _ _ + valOf _ _ < valOf _ _ + valOf _ _
        rw [HMX.out, HMY.out, VQ.out _ _ _ (k1.rdLen (show (lim R).length = nl R from rfl) (by omega)), VQ.out _ _ _ (k2.rdLen k3 (by omega)), val_lim, val_lim, k4, q4]
        exact HSUM.out
    · go_wp2_with fail
      refine HT.out.mono ?_
      rintro e w5 ⟨rfl, rfl⟩
      go_wp2_with fail
      refine (gcdShort_any hnx HNY.out (by omega) (by omega)).mono ?_
      rintro e w6 ⟨v, rfl, hv, hf6⟩
      go_wp2
      go_ret
      refine ⟨_, rfl, ?_, ?_⟩
      · rw [← H.out.2.2.2.2.2.1]; exact hv
      · exact Fwd.trans (show Fwd w wr from H.out.2.2.2.2.2.2) hf6

set_option maxHeartbeats 8000000 in
set_option maxRecDepth 20000 in
theorem gcd_lt {w : World} {a b : Value} {m n : Nat} (ha : Num w a m) (hb : Num w b n) (hm : nl m ≤ 1000000) (hn : nl n ≤ 1000000) (hle : m < n) :
    Calls Tryz.prog 72 #[a, b] w fun e w' => ∃ v, e = .returned v ∧ Num w' v (Nat.gcd m n) ∧ Fwd w w' := by
  have hnl : nl m ≤ nl n := nl_mono (by omega)
  have hcm : decide (cmpW (m : Int) (n : Int) < 0) = true := by
    apply decide_eq_true
    rw [cmpI_lt (by omega)]; omega
  have HLE := hid hle
  clear hle
  obtain ⟨valOf, hq0⟩ := valOf_ex
  have VQ := hid hq0
  clear hq0
  go_enter Tryz.func72, Tryz.ntmps72
  go_wp2_with fail
  refine (trim_num ha).mono ?_
  rintro e w1 ⟨va, rfl, hna, _, rfl⟩
  go_wp2_with fail
  refine (trim_num hb).mono ?_
  rintro e w1 ⟨vb, rfl, hnb, _, rfl⟩
  clear ha hb
  obtain ⟨ao, ca, rfl, hca, hcma, hcella⟩ := hna.parts
  obtain ⟨bo, cb, rfl, hcb, hcmb, hcellb⟩ := hnb.parts
  unfold maxLen at hcma hcmb
  clear hcella hcellb
  go_wp2_with fail
  refine (cmp_any hna hnb (by omega) (by omega)).mono ?_
  rintro e w1 ⟨rfl, hf1⟩
  have hna1 := hna.fwd hf1
  have hnb1 := hnb.fwd hf1
  clear hna hnb
  go_wp2_with fail
  refine (clone_any hnb1 (show nl n ≤ _ by omega)).mono ?_
  rintro e w2 ⟨rfl, hbk, hf2⟩
  have hsm2 := hna1.fwd hf2
  have hel : (lim n).length = nl n := rfl
  rw [hel]
  have hes : (lim m).length = nl m := rfl
  have hsub : ((nl n : Int) - (nl m : Int)).toNat = nl n - nl m := by omega
  go_wp2_with fail
  refine (widen_any ((nl n : Int) - (nl m : Int)) hsm2 (by omega) (by rw [hes, hsub]; omega)).mono ?_
  rintro e w3 ⟨mm, hmm, rfl, hbw, hf3⟩
  rw [hes, hsub] at hmm
  have hmm2 : mm = nl n := by omega
  subst hmm2
  rw [hsub] at hbw
  have HB1 := hid (hbk.fwd hf3)
  have HB2 := hid hbw
  have HF3 := hid ((hf1.trans hf2).trans hf3)
  have hsz : w.heap.size ≤ w1.heap.size := hf1.size
  have hsz2 : w1.heap.size < w2.heap.size := hbk.lt
  clear hbk hbw hf1 hf2 hf3 hna1 hnb1 hsm2 hel hes hsub hmm
  go_wp2
  go_loopw [5, 6] (fun x y wr => ∃ (gx gy X Y : Nat) (px py ys : List Nat), x = .slice (some ⟨gx, 0, none⟩) (nl X) (nl X) ∧ y = .slice (some ⟨gy, 0, none⟩) (nl X) (nl X) ∧ gx ≠ gy ∧ w.heap.size ≤ gx ∧ w.heap.size ≤ gy ∧ nl X ≤ 1000000 ∧
      Blk wr gx ([] ++ (lim X ++ px)) ∧ Blk wr gy ([] ++ (ys ++ py)) ∧ ys.length = nl X ∧ val ys = Y ∧ Y ≤ X ∧ Nat.gcd X Y = Nat.gcd m n ∧ Below w.heap.size w wr) (fun x y wr => valOf wr x + valOf wr y)
  case atStart =>
    refine ⟨w1.heap.size, w2.heap.size, n, m, [], [], lim m ++ List.replicate (nl n - nl m) 0, rfl, rfl, by omega, by omega, by omega, by omega, by simpa using HB1.out, by simpa using HB2.out, ?_, ?_, by have := HLE.out; omega, Nat.gcd_comm _ _, HF3.out⟩
    · rw [List.length_append, List.length_replicate]; show nl m + _ = _; omega
    · rw [val_append, val_replicate, val_lim]; simp
  case round =>
    obtain ⟨gx, gy, X, Y, px, py, ys, rfl, rfl, hne, hgx, hgy, hXb, hbx, hby, hyl, hvy, hYX, hgc, hbel⟩ := hrel
    have hsx := hbx.rdLen (show (lim X).length = nl X from rfl) (by omega)
    have hsy := hby.rdLen hyl (by omega)
    have HMX := hid (VQ.out _ _ _ hsx)
    have HMY := hid (VQ.out _ _ _ hsy)
    have hYn : nl Y ≤ nl X := nl_mono hYX
    have H := hid (And.intro hbx (And.intro hby (And.intro hyl (And.intro hvy (And.intro hYX (And.intro hgc hbel))))))
    have hnx : Num wr (.slice (some ⟨gx, 0, none⟩) (nl X) (nl X)) X := hsx
    have hT : Calls Tryz.prog 67 #[.slice (some ⟨gy, 0, none⟩) (nl X) (nl X)] wr fun e w' => e = .returned (.slice (some ⟨gy, 0, none⟩) (nl Y) (nl Y)) ∧ wr = w' := by
      have := trim_row (len := nl X) (off := 0) (cap := nl X) hby hyl.symm rfl (by omega) (le_maxLen (by omega))
      rwa [hvy] at this
    have HT := hid hT
    have hny : Num wr (.slice (some ⟨gy, 0, none⟩) (nl Y) (nl Y)) Y := by
      have h1 := take_nl hsy.ok
      rw [hvy] at h1
      have h2 : Blk wr gy ([] ++ (lim Y ++ (ys.drop (nl Y) ++ py))) := by
        rw [← List.append_assoc (lim Y), ← h1]; exact hby
      exact h2.rdLen rfl (by omega)
    have HNY := hid hny
    clear hbx hby hyl hvy hYX hgc hbel hsx hsy hT hny
    go_wp2_with fail
    refine HT.out.mono ?_
    rintro e w4 ⟨rfl, rfl⟩
    by_cases h2 : 2 < nl Y
    · go_wp2_with fail
      obtain ⟨q1, q2, q3, q4, q5, q6, q7⟩ := H.out
      refine (lessen_any (base := w.heap.size) q1 q2 hne rfl q3 q4 (by omega) q5 h2 hgx hgy).mono ?_
      rintro e w5 ⟨gA, gB, R, P, zs, ts, pA, pB, rfl, hneAB, hgA, hgB, hzl, htl, hbz, hbt, hvz, hvt, hPR, hsum, hgcd, hbel5⟩
      have hT5 : Calls Tryz.prog 67 #[.slice (some ⟨gA, 0, none⟩) (nl X) (nl X)] w5 fun e w' => e = .returned (.slice (some ⟨gA, 0, none⟩) (nl R) (nl R)) ∧ w5 = w' := by
        have := trim_row (len := nl X) (off := 0) (cap := nl X) hbz hzl.symm rfl (by omega) (le_maxLen (by omega))
        rwa [hvz] at this
      have hRL : nl R ≤ nl X := by
        have := nl_val_le hbz.okMid
        rw [hvz, hzl] at this; exact this
      have HT5 := hid hT5
      have HB5 := hid (q7.trans hbel5)
      have HGC := hid (hgcd.trans q6)
      have H5 := hid (And.intro hzl (And.intro htl (And.intro hbz (And.intro hbt (And.intro hvz hvt)))))
      have HPR := hid hPR
      have HSUM := hid hsum
      clear q1 q2 q3 q4 q5 q6 q7 hzl htl hbz hbt hvz hvt hT5 hgcd hbel5 hPR hsum HT HNY hnx
      go_wp2_with fail
      refine HT5.out.mono ?_
      rintro e w6 ⟨rfl, rfl⟩
      have HEX : Hid (∃ (pA' pB' ts' : List Nat), Blk w5 gA ([] ++ (lim R ++ pA')) ∧ Blk w5 gB ([] ++ (ts' ++ pB')) ∧ ts'.length = nl R ∧ val ts' = P) := by
        obtain ⟨hzl, htl, hbz, hbt, hvz, hvt⟩ := H5.out
        have h1 := take_nl hbz.okMid
        rw [hvz] at h1
        refine hid ⟨zs.drop (nl R) ++ pA, ts.drop (nl R) ++ pB, ts.take (nl R), ?_, ?_, ?_, ?_⟩
        · rw [← List.append_assoc (lim R), ← h1]; exact hbz
        · rw [← List.append_assoc (ts.take _), List.take_append_drop]; exact hbt
        · rw [List.length_take]; omega
        · rw [small_take (by rw [hvt]; exact Nat.lt_of_le_of_lt HPR.out (lt_pow_nl R)) (by omega)]; exact hvt
      go_wp2
      go_roundw
      case rel =>
        obtain ⟨pA', pB', ts', k1, k2, k3, k4⟩ := HEX.out
        exact ⟨gA, gB, R, P, pA', pB', ts', rfl, rfl, hneAB, hgA, hgB, by omega, k1, k2, k3, k4, HPR.out, HGC.out, HB5.out⟩
      case measure =>
        obtain ⟨pA', pB', ts', k1, k2, k3, k4⟩ := HEX.out
        obtain ⟨q1, q2, q3, q4, q5, q6, q7⟩ := H.out
        show valOf _ _ + valOf _ _ < valOf _ _ + valOf _ _
        rw [HMX.out, HMY.out, VQ.out _ _ _ (k1.rdLen (show (lim R).length = nl R from rfl) (by omega)), VQ.out _ _ _ (k2.rdLen k3 (by omega)), val_lim, val_lim, k4, q4]
        exact HSUM.out
    · go_wp2_with fail
      refine HT.out.mono ?_
      rintro e w5 ⟨rfl, rfl⟩
      go_wp2_with fail
      refine (gcdShort_any hnx HNY.out (by omega) (by omega)).mono ?_
      rintro e w6 ⟨v, rfl, hv, hf6⟩
      go_wp2
      go_ret
      refine ⟨_, rfl, ?_, ?_⟩
      · rw [← H.out.2.2.2.2.2.1]; exact hv
      · exact Fwd.trans (show Fwd w wr from H.out.2.2.2.2.2.2) hf6

theorem gcd_any {w : World} {a b : Value} {m n : Nat} (ha : Num w a m) (hb : Num w b n) (hm : nl m ≤ 1000000) (hn : nl n ≤ 1000000) :
    Calls Tryz.prog 72 #[a, b] w fun e w' => ∃ v, e = .returned v ∧ Num w' v (Nat.gcd m n) ∧ Fwd w w' := by
  rcases Nat.lt_or_ge m n with h | h
  · exact gcd_lt ha hb hm hn h
  · exact gcd_ge ha hb hm hn h

end Go.Proofs.YtcfhajnboamnnaaGreatDoor
