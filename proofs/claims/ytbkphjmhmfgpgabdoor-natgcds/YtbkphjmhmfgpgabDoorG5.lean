/- Contract of nat's steps.walk: so many steps of Euclid's way at once. -/
import Derived.Test.YtbkphjmhmfgpgabDoorG4
import Derived.Deep.RegionWith
namespace Go.Proofs.YtbkphjmhmfgpgabDoor
open Go.RowKit
set_option linter.unusedVariables false

theorem Blk.below {w w' : World} {g base : Nat} {L : List Nat} (h : Blk w g L) (k : Below base w w') (hg : g < base) : Blk w' g L := ⟨(k.block g hg).trans h.1, h.2⟩
theorem Below.only {base g : Nat} {a w w' : World} (h : Below base a w) (k : Only g w w') (hb : base ≤ w.heap.size) (hg : base ≤ g) : Below base a w' :=
  Below.grown h k hb (fun i e => by simp at e; omega)

theorem BlkV.drew {w : World} {g : Nat} {T : TypeId} {cs : List Value} (h : BlkV w g T cs) : BlkV w.drew g T cs := h
theorem Blk.drew {w : World} {g : Nat} {L : List Nat} (h : Blk w g L) : Blk w.drew g L := h
theorem cell_drew {w : World} {p : Addr} {v : Value} (h : w.cell? p = some v) : w.drew.cell? p = some v := h

/-- What was told by limbs is the number itself. -/
theorem diff_done {L p m X Y R Z cp cm b : Nat} (h : p * X + (b + cm) * 4294967296 ^ L = Z + m * Y + cp * 4294967296 ^ L) (hR : R + m * Y = p * X) (hRl : R < 4294967296 ^ L) (hZl : Z < 4294967296 ^ L) : Z = R := by
  generalize 4294967296 ^ L = P at *
  have e : R + (b + cm) * P = Z + cp * P := by omega
  have e1 : (R + (b + cm) * P) % P = R := by rw [Nat.add_mul_mod_self_right, Nat.mod_eq_of_lt hRl]
  have e2 : (Z + cp * P) % P = Z := by rw [Nat.add_mul_mod_self_right, Nat.mod_eq_of_lt hZl]
  rw [e] at e1
  omega

set_option maxHeartbeats 8000000 in
set_option maxRecDepth 20000 in
theorem walk_even {w : World} {gA gB L base p0 m0 p1 m1 RG RL : Nat} {A B pA pB : List Nat} (hA : Blk w gA ([] ++ (A ++ pA))) (hB : Blk w gB ([] ++ (B ++ pB))) (hne : gA ≠ gB) (hAl : A.length = L) (hBl : B.length = L) (hL : L ≤ 100000000)
    (hgA : base ≤ gA) (hgB : base ≤ gB) (hp0 : p0 < 4294967296) (hm0 : m0 < 4294967296) (hp1 : p1 < 4294967296) (hm1 : m1 < 4294967296)
    (hG : RG + m0 * val B = p0 * val A) (hLs : RL + m1 * val A = p1 * val B) (hGl : RG < 4294967296 ^ L) (hLl : RL < 4294967296 ^ L) :
    Calls Tryd.prog 61 #[.agg #[.int .u64 p0, .int .u64 m1, .int .u64 m0, .int .u64 p1, .bool false], .slice (some ⟨gA, 0, none⟩) L L, .slice (some ⟨gB, 0, none⟩) L L] w fun e w' => ∃ zs ts : List Nat, e = .returned (.tuple #[.slice (some ⟨gA, 0, none⟩) L L, .slice (some ⟨gB, 0, none⟩) L L]) ∧
      zs.length = L ∧ ts.length = L ∧ Blk w' gA ([] ++ (zs ++ pA)) ∧ Blk w' gB ([] ++ (ts ++ pB)) ∧ val zs = RG ∧ val ts = RL ∧ Below base w w' := by
  have hltA := hA.lt
  have hltB := hB.lt
  have HAB := hid (And.intro hA hB)
  have HEND := hid (And.intro hG (And.intro hLs (And.intro hGl hLl)))
  have hokA := hid hA.okMid
  have hokB := hid hB.okMid
  have HLEN := hid (And.intro hAl hBl)
  have hbs : base ≤ w.heap.size := by omega
  clear hA hB hG hLs hGl hLl hAl hBl
  go_enter Tryd.func61, Tryd.ntmps61
  go_wp2
  go_loopw [40] (fun iv wr => ∃ (k : Nat) (zs ts : List Nat) (cp cm b cp' cm' b' : Nat), k ≤ L ∧ iv = .int .i64 k ∧ cp < 4294967296 ∧ cm < 4294967296 ∧ b ≤ 1 ∧ cp' < 4294967296 ∧ cm' < 4294967296 ∧ b' ≤ 1 ∧
      Blk wr gA ([] ++ (zs ++ pA)) ∧ Blk wr gB ([] ++ (ts ++ pB)) ∧ BlkV wr (w.heap.size + 1) 78 [.int .u64 p0, .int .u64 m0, .int .u64 cp, .int .u64 cm, .int .u64 b] ∧ BlkV wr (w.heap.size + 1 + 1) 78 [.int .u64 p1, .int .u64 m1, .int .u64 cp', .int .u64 cm', .int .u64 b'] ∧
      Below base w wr ∧ zs.length = L ∧ ts.length = L ∧ zs.drop k = A.drop k ∧ ts.drop k = B.drop k ∧
      p0 * val (A.take k) + (b + cm) * 4294967296 ^ k = val (zs.take k) + m0 * val (B.take k) + cp * 4294967296 ^ k ∧
      p1 * val (B.take k) + (b' + cm') * 4294967296 ^ k = val (ts.take k) + m1 * val (A.take k) + cp' * 4294967296 ^ k) (fun iv _ => L - (intOf iv).toNat)
  case atStart =>
    have hf3 := (((Fwd.refl w).alloc (.cells #[.int .u64 p0, .int .u64 m1, .int .u64 m0, .int .u64 p1, .bool false] 66)).alloc (.cells #[.int .u64 p0, .int .u64 m0, .int .u64 0, .int .u64 0, .int .u64 0] 78)).alloc (.cells #[.int .u64 p1, .int .u64 m1, .int .u64 0, .int .u64 0, .int .u64 0] 78)
    refine ⟨0, A, B, 0, 0, 0, 0, 0, 0, by omega, rfl, by omega, by omega, by omega, by omega, by omega, by omega, HAB.out.1.fwd hf3, HAB.out.2.fwd hf3, ?_, ?_, Below.mono hf3 hbs, HLEN.out.1, HLEN.out.2, rfl, rfl, by simp [val], by simp [val]⟩
    · exact (BlkV.made2 w _ _ _).alloc _
    · have := BlkV.made2 (w.alloc (.cells #[.int .u64 p0, .int .u64 m1, .int .u64 m0, .int .u64 p1, .bool false] 66)) 78 (.cells #[.int .u64 p0, .int .u64 m0, .int .u64 0, .int .u64 0, .int .u64 0] 78) [.int .u64 p1, .int .u64 m1, .int .u64 0, .int .u64 0, .int .u64 0]
      simpa using this
  case round =>
    obtain ⟨k, zs, ts, cp, cm, b, cp', cm', b', hk, rfl, hcp, hcm, hb, hcp', hcm', hb', hz, ht, hG, hLs, hbel, hzl, htl, hzd, htd, e1, e2⟩ := hrel
    have H := hid (And.intro hzl (And.intro htl (And.intro hzd (And.intro htd (And.intro e1 e2)))))
    have HZ := hid hz
    have HT := hid ht
    have HG := hid hG
    have HL := hid hLs
    have HBEL := hid hbel
    clear hzl htl hzd htd e1 e2 hz ht hG hLs hbel
    by_cases hlt : k < L
    · have hzk := HZ.out.mid k (by rw [H.out.1]; exact hlt)
      have htk := HT.out.mid k (by rw [H.out.2.1]; exact hlt)
      simp only [List.length_nil, Nat.zero_add] at hzk htk
      rw [getD_of_drop H.out.2.2.1] at hzk
      rw [getD_of_drop H.out.2.2.2.1] at htk
      obtain ⟨x, hx⟩ : ∃ x, x = A.getD k 0 := ⟨_, rfl⟩
      obtain ⟨y, hy⟩ : ∃ y, y = B.getD k 0 := ⟨_, rfl⟩
      have hxb : x < 4294967296 := by rw [hx]; exact hokA.out.getD _
      have hyb : y < 4294967296 := by rw [hy]; exact hokB.out.getD _
      rw [← hx] at hzk
      rw [← hy] at htk
      have HXY := hid (And.intro hx hy)
      clear hx hy
      have nAG : gA ≠ w.heap.size + 1 := by omega
      have nAL : gA ≠ w.heap.size + 1 + 1 := by omega
      have nBG : gB ≠ w.heap.size + 1 := by omega
      have nBL : gB ≠ w.heap.size + 1 + 1 := by omega
      have NN := hid (And.intro nAG (And.intro nAL (And.intro nBG nBL)))
      clear nAG nAL nBG nBL
      have HGd := hid HG.out.drew
      have HLd := hid HL.out.drew
      have HZd := hid HZ.out.drew
      have HTd := hid HT.out.drew
      have HZK := hid (cell_drew hzk)
      have HTK := hid (cell_drew htk)
      go_wp2_with fail
      go_region_with (first
        | (go_at_call 70; refine (next_any hL1.out hp1 hm1 hcp' hcm' hb' hyb hxb).mono ?_
           rintro e w2 ⟨r2, b2, rfl, hr2, hb2, he2, hL2, hO2⟩
           have hZ2 := hid ((HZd.out.only hO1 NN.out.1).only hO2 NN.out.2.1)
           have hT2 := hid ((HTd.out.only hO1 NN.out.2.2.1).only hO2 NN.out.2.2.2)
           have hzf := hZ2.out.frozen k
           have htf := hT2.out.frozen k
           have hzk2 := hO2.cell (hO1.cell HZK.out NN.out.1) NN.out.2.1
           have htk2 := hO2.cell htk1 NN.out.2.2.2)
        | (go_at_call 70; refine (next_any HGd.out hp0 hm0 hcp hcm hb hxb hyb).mono ?_
           rintro e w1 ⟨r1, b1, rfl, hr1, hb1, he1, hG1, hO1⟩
           have hL1 := hid (HLd.out.only hO1 (by omega))
           have htk1 := hO1.cell HTK.out NN.out.2.2.1))
      all_goals (try go_wp2)
      all_goals go_roundw
      all_goals first
        | (show L - _ < L - _
           simp [intOf]
           omega)
        | (obtain ⟨q1, q2, q3, q4, q5, q6⟩ := H.out
           have hlz : k < zs.length := by omega
           have hlt2 : k < ts.length := by omega
           have hon1 := Only.set gA w2 k (.int .u32 (r1 : Int))
           have hon2 := Only.set gB (w2.setCell ⟨gA, k, none⟩ (.int .u32 (r1 : Int))) k (.int .u32 (r2 : Int))
           have hzn := hZ2.out.setAt k hlz _ r1 rfl hr1
           have htn := (hT2.out.only hon1 (Ne.symm hne)).setAt k hlt2 _ r2 rfl hr2
           simp only [List.length_nil, Nat.zero_add] at hzn htn
           have d0 : Below base w wr.drew := Below.drew HBEL.out
           have d1 := Below.only d0 hO1 (Nat.le_trans hbs d0.size) (by omega)
           have d2 := Below.only d1 hO2 (Nat.le_trans hbs d1.size) (by omega)
           have d3 := Below.only d2 hon1 (Nat.le_trans hbs d2.size) hgA
           have d4 := Below.only d3 hon2 (Nat.le_trans hbs d3.size) hgB
           have m1' := (mul_bd hp0 hxb).2.2
           have m2' := (mul_bd hm0 hyb).2.2
           have m3' := (mul_bd hp1 hyb).2.2
           have m4' := (mul_bd hm1 hxb).2.2
           refine ⟨k + 1, zs.set k r1, ts.set k r2, (cp + p0 * x) / 4294967296, (cm + m0 * y) / 4294967296, b1, (cp' + p1 * y) / 4294967296, (cm' + m1 * x) / 4294967296, b2, by omega, by go_num, by omega, by omega, hb1, by omega, by omega, hb2, hzn.only hon2 hne, htn,
             ((hG1.only hO2 (by omega)).only hon1 (Ne.symm NN.out.1)).only hon2 (Ne.symm NN.out.2.2.1), (hL2.only hon1 (Ne.symm NN.out.2.1)).only hon2 (Ne.symm NN.out.2.2.2), d4, by rw [set_len]; exact q1, by rw [set_len]; exact q2, set_drop q3, set_drop q4, ?_, ?_⟩
           · rw [set_val hlz, val_take_succ A, val_take_succ B, ← HXY.out.1, ← HXY.out.2, Nat.pow_succ]
             exact diff_step q5 he1
           · rw [set_val hlt2, val_take_succ A, val_take_succ B, ← HXY.out.1, ← HXY.out.2, Nat.pow_succ]
             exact diff_step q6 he2)
    · go_wp2
      go_ret2
      obtain ⟨q1, q2, q3, q4, q5, q6⟩ := H.out
      obtain ⟨f1, f2, f3, f4⟩ := HEND.out
      have hkL : k = L := by omega
      rw [hkL, val_take_all (xs := A) (by rw [HLEN.out.1]; exact Nat.le_refl _), val_take_all (xs := B) (by rw [HLEN.out.2]; exact Nat.le_refl _)] at q5 q6
      rw [val_take_all (by omega)] at q5 q6
      have hz1 := val_lt HZ.out.okMid
      have ht1 := val_lt HT.out.okMid
      rw [q1] at hz1
      rw [q2] at ht1
      exact ⟨zs, ts, rfl, q1, q2, HZ.out, HT.out, diff_done q5 f1 f3 hz1, diff_done q6 f2 f4 ht1, HBEL.out⟩

set_option maxHeartbeats 8000000 in
set_option maxRecDepth 20000 in
theorem walk_odd {w : World} {gA gB L base p0 m0 p1 m1 RG RL : Nat} {A B pA pB : List Nat} (hA : Blk w gA ([] ++ (A ++ pA))) (hB : Blk w gB ([] ++ (B ++ pB))) (hne : gA ≠ gB) (hAl : A.length = L) (hBl : B.length = L) (hL : L ≤ 100000000)
    (hgA : base ≤ gA) (hgB : base ≤ gB) (hp0 : p0 < 4294967296) (hm0 : m0 < 4294967296) (hp1 : p1 < 4294967296) (hm1 : m1 < 4294967296)
    (hG : RG + m0 * val B = p0 * val A) (hLs : RL + m1 * val A = p1 * val B) (hGl : RG < 4294967296 ^ L) (hLl : RL < 4294967296 ^ L) :
    Calls Tryd.prog 61 #[.agg #[.int .u64 m0, .int .u64 p1, .int .u64 p0, .int .u64 m1, .bool true], .slice (some ⟨gB, 0, none⟩) L L, .slice (some ⟨gA, 0, none⟩) L L] w fun e w' => ∃ zs ts : List Nat, e = .returned (.tuple #[.slice (some ⟨gA, 0, none⟩) L L, .slice (some ⟨gB, 0, none⟩) L L]) ∧
      zs.length = L ∧ ts.length = L ∧ Blk w' gA ([] ++ (zs ++ pA)) ∧ Blk w' gB ([] ++ (ts ++ pB)) ∧ val zs = RG ∧ val ts = RL ∧ Below base w w' := by
  have hltA := hA.lt
  have hltB := hB.lt
  have HAB := hid (And.intro hA hB)
  have HEND := hid (And.intro hG (And.intro hLs (And.intro hGl hLl)))
  have hokA := hid hA.okMid
  have hokB := hid hB.okMid
  have HLEN := hid (And.intro hAl hBl)
  have hbs : base ≤ w.heap.size := by omega
  clear hA hB hG hLs hGl hLl hAl hBl
  go_enter Tryd.func61, Tryd.ntmps61
  go_wp2
  go_loopw [40] (fun iv wr => ∃ (k : Nat) (zs ts : List Nat) (cp cm b cp' cm' b' : Nat), k ≤ L ∧ iv = .int .i64 k ∧ cp < 4294967296 ∧ cm < 4294967296 ∧ b ≤ 1 ∧ cp' < 4294967296 ∧ cm' < 4294967296 ∧ b' ≤ 1 ∧
      Blk wr gA ([] ++ (zs ++ pA)) ∧ Blk wr gB ([] ++ (ts ++ pB)) ∧ BlkV wr (w.heap.size + 1) 78 [.int .u64 p0, .int .u64 m0, .int .u64 cp, .int .u64 cm, .int .u64 b] ∧ BlkV wr (w.heap.size + 1 + 1) 78 [.int .u64 p1, .int .u64 m1, .int .u64 cp', .int .u64 cm', .int .u64 b'] ∧
      Below base w wr ∧ zs.length = L ∧ ts.length = L ∧ zs.drop k = A.drop k ∧ ts.drop k = B.drop k ∧
      p0 * val (A.take k) + (b + cm) * 4294967296 ^ k = val (zs.take k) + m0 * val (B.take k) + cp * 4294967296 ^ k ∧
      p1 * val (B.take k) + (b' + cm') * 4294967296 ^ k = val (ts.take k) + m1 * val (A.take k) + cp' * 4294967296 ^ k) (fun iv _ => L - (intOf iv).toNat)
  case atStart =>
    have hf3 := (((Fwd.refl w).alloc (.cells #[.int .u64 p0, .int .u64 m1, .int .u64 m0, .int .u64 p1, .bool true] 66)).alloc (.cells #[.int .u64 p0, .int .u64 m0, .int .u64 0, .int .u64 0, .int .u64 0] 78)).alloc (.cells #[.int .u64 p1, .int .u64 m1, .int .u64 0, .int .u64 0, .int .u64 0] 78)
    refine ⟨0, A, B, 0, 0, 0, 0, 0, 0, by omega, rfl, by omega, by omega, by omega, by omega, by omega, by omega, HAB.out.1.fwd hf3, HAB.out.2.fwd hf3, ?_, ?_, Below.mono hf3 hbs, HLEN.out.1, HLEN.out.2, rfl, rfl, by simp [val], by simp [val]⟩
    · exact (BlkV.made2 w _ _ _).alloc _
    · have := BlkV.made2 (w.alloc (.cells #[.int .u64 p0, .int .u64 m1, .int .u64 m0, .int .u64 p1, .bool true] 66)) 78 (.cells #[.int .u64 p0, .int .u64 m0, .int .u64 0, .int .u64 0, .int .u64 0] 78) [.int .u64 p1, .int .u64 m1, .int .u64 0, .int .u64 0, .int .u64 0]
      simpa using this
  case round =>
    obtain ⟨k, zs, ts, cp, cm, b, cp', cm', b', hk, rfl, hcp, hcm, hb, hcp', hcm', hb', hz, ht, hG, hLs, hbel, hzl, htl, hzd, htd, e1, e2⟩ := hrel
    have H := hid (And.intro hzl (And.intro htl (And.intro hzd (And.intro htd (And.intro e1 e2)))))
    have HZ := hid hz
    have HT := hid ht
    have HG := hid hG
    have HL := hid hLs
    have HBEL := hid hbel
    clear hzl htl hzd htd e1 e2 hz ht hG hLs hbel
    by_cases hlt : k < L
    · have hzk := HZ.out.mid k (by rw [H.out.1]; exact hlt)
      have htk := HT.out.mid k (by rw [H.out.2.1]; exact hlt)
      simp only [List.length_nil, Nat.zero_add] at hzk htk
      rw [getD_of_drop H.out.2.2.1] at hzk
      rw [getD_of_drop H.out.2.2.2.1] at htk
      obtain ⟨x, hx⟩ : ∃ x, x = A.getD k 0 := ⟨_, rfl⟩
      obtain ⟨y, hy⟩ : ∃ y, y = B.getD k 0 := ⟨_, rfl⟩
      have hxb : x < 4294967296 := by rw [hx]; exact hokA.out.getD _
      have hyb : y < 4294967296 := by rw [hy]; exact hokB.out.getD _
      rw [← hx] at hzk
      rw [← hy] at htk
      have HXY := hid (And.intro hx hy)
      clear hx hy
      have nAG : gA ≠ w.heap.size + 1 := by omega
      have nAL : gA ≠ w.heap.size + 1 + 1 := by omega
      have nBG : gB ≠ w.heap.size + 1 := by omega
      have nBL : gB ≠ w.heap.size + 1 + 1 := by omega
      have NN := hid (And.intro nAG (And.intro nAL (And.intro nBG nBL)))
      clear nAG nAL nBG nBL
      have HGd := hid HG.out.drew
      have HLd := hid HL.out.drew
      have HZd := hid HZ.out.drew
      have HTd := hid HT.out.drew
      have HZK := hid (cell_drew hzk)
      have HTK := hid (cell_drew htk)
      go_wp2_with fail
      go_region_with (first
        | (go_at_call 70; refine (next_any hL1.out hp1 hm1 hcp' hcm' hb' hyb hxb).mono ?_
           rintro e w2 ⟨r2, b2, rfl, hr2, hb2, he2, hL2, hO2⟩
           have hZ2 := hid ((HZd.out.only hO1 NN.out.1).only hO2 NN.out.2.1)
           have hT2 := hid ((HTd.out.only hO1 NN.out.2.2.1).only hO2 NN.out.2.2.2)
           have hzf := hZ2.out.frozen k
           have htf := hT2.out.frozen k
           have hzk2 := hO2.cell (hO1.cell HZK.out NN.out.1) NN.out.2.1
           have htk2 := hO2.cell htk1 NN.out.2.2.2)
        | (go_at_call 70; refine (next_any HGd.out hp0 hm0 hcp hcm hb hxb hyb).mono ?_
           rintro e w1 ⟨r1, b1, rfl, hr1, hb1, he1, hG1, hO1⟩
           have hL1 := hid (HLd.out.only hO1 (by omega))
           have htk1 := hO1.cell HTK.out NN.out.2.2.1))
      all_goals (try go_wp2)
      all_goals go_roundw
      all_goals first
        | (show L - _ < L - _
           simp [intOf]
           omega)
        | (obtain ⟨q1, q2, q3, q4, q5, q6⟩ := H.out
           have hlz : k < zs.length := by omega
           have hlt2 : k < ts.length := by omega
           have hon1 := Only.set gA w2 k (.int .u32 (r1 : Int))
           have hon2 := Only.set gB (w2.setCell ⟨gA, k, none⟩ (.int .u32 (r1 : Int))) k (.int .u32 (r2 : Int))
           have hzn := hZ2.out.setAt k hlz _ r1 rfl hr1
           have htn := (hT2.out.only hon1 (Ne.symm hne)).setAt k hlt2 _ r2 rfl hr2
           simp only [List.length_nil, Nat.zero_add] at hzn htn
           have d0 : Below base w wr.drew := Below.drew HBEL.out
           have d1 := Below.only d0 hO1 (Nat.le_trans hbs d0.size) (by omega)
           have d2 := Below.only d1 hO2 (Nat.le_trans hbs d1.size) (by omega)
           have d3 := Below.only d2 hon1 (Nat.le_trans hbs d2.size) hgA
           have d4 := Below.only d3 hon2 (Nat.le_trans hbs d3.size) hgB
           have m1' := (mul_bd hp0 hxb).2.2
           have m2' := (mul_bd hm0 hyb).2.2
           have m3' := (mul_bd hp1 hyb).2.2
           have m4' := (mul_bd hm1 hxb).2.2
           refine ⟨k + 1, zs.set k r1, ts.set k r2, (cp + p0 * x) / 4294967296, (cm + m0 * y) / 4294967296, b1, (cp' + p1 * y) / 4294967296, (cm' + m1 * x) / 4294967296, b2, by omega, by go_num, by omega, by omega, hb1, by omega, by omega, hb2, hzn.only hon2 hne, htn,
             ((hG1.only hO2 (by omega)).only hon1 (Ne.symm NN.out.1)).only hon2 (Ne.symm NN.out.2.2.1), (hL2.only hon1 (Ne.symm NN.out.2.1)).only hon2 (Ne.symm NN.out.2.2.2), d4, by rw [set_len]; exact q1, by rw [set_len]; exact q2, set_drop q3, set_drop q4, ?_, ?_⟩
           · rw [set_val hlz, val_take_succ A, val_take_succ B, ← HXY.out.1, ← HXY.out.2, Nat.pow_succ]
             exact diff_step q5 he1
           · rw [set_val hlt2, val_take_succ A, val_take_succ B, ← HXY.out.1, ← HXY.out.2, Nat.pow_succ]
             exact diff_step q6 he2)
    · go_wp2
      go_ret2
      obtain ⟨q1, q2, q3, q4, q5, q6⟩ := H.out
      obtain ⟨f1, f2, f3, f4⟩ := HEND.out
      have hkL : k = L := by omega
      rw [hkL, val_take_all (xs := A) (by rw [HLEN.out.1]; exact Nat.le_refl _), val_take_all (xs := B) (by rw [HLEN.out.2]; exact Nat.le_refl _)] at q5 q6
      rw [val_take_all (by omega)] at q5 q6
      have hz1 := val_lt HZ.out.okMid
      have ht1 := val_lt HT.out.okMid
      rw [q1] at hz1
      rw [q2] at ht1
      exact ⟨zs, ts, rfl, q1, q2, HZ.out, HT.out, diff_done q5 f1 f3 hz1, diff_done q6 f2 f4 ht1, HBEL.out⟩

end Go.Proofs.YtbkphjmhmfgpgabDoor
