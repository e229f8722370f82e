/- Shifts of nat: the laws for copy and clear over a row of the call's own, moveUp. -/
import Derived.Test.YtbkphjmhmfgpgabDoorR4
namespace Go.Proofs.YtbkphjmhmfgpgabDoor
open Go.RowKit
set_option linter.unusedVariables false

/-- copy(dst, src), whichever is the longer one; src may lie in the same row. -/
theorem law_copyM {w : World} {ops : Array Oper} {rest : List Oper} {o : Oper} {a : Act} {Q : Exit → Act → World → Prop} (hgd : o.guard = none) (d s : Operand)
    (ho : o.op = .call { callee := .builtin .copy, args := #[d, s], argTypes := #[22, 22] })
    (g off n cap : Nat) (v : Value) (hd : a.eval d = .slice (some ⟨g, off, none⟩) n cap) (hs : a.eval s = v)
    (pre xs post cs : List Nat) (hb : Blk w g (pre ++ (xs ++ post))) (hoff : off = pre.length) (hn : n = xs.length) (hv : Rd w v cs)
    (h : ∀ w', Blk w' g (pre ++ ((cs.take xs.length ++ xs.drop cs.length) ++ post)) → Only g w w' → wpList Tryd.prog ops Q rest (a.put o.dst (goInt (min cs.length xs.length : Nat))) w') :
    wpList Tryd.prog ops Q (o :: rest) a w := by
  subst hoff hn
  have h2 := hb.2
  have hp : Ok pre := fun x hx => h2 x (by simp [hx])
  have hxk : Ok xs := fun x hx => h2 x (by simp [hx])
  have hq : Ok post := fun x hx => h2 x (by simp [hx])
  have hok : Ok (pre ++ ((cs.take xs.length ++ xs.drop cs.length) ++ post)) := hp.append (((hv.ok.take _).append (hxk.drop _)).append hq)
  by_cases h0 : min cs.length xs.length = 0
  · have hs' : ∃ sp sc, v = .slice sp cs.length sc := by
      rcases hv.2 with ⟨e, e2⟩ | ⟨b, off, c, e, _⟩
      · subst e2; exact ⟨none, 0, e⟩
      · exact ⟨_, _, e⟩
    obtain ⟨sp, sc, e⟩ := hs'
    refine wpList_copy_nothing hgd d s 22 22 ho 33 Tryd.underlying22 size_u32 (some ⟨g, pre.length, none⟩) sp xs.length cap cs.length sc hd (hs.trans e) h0 ?_
    have e1 : cs.take xs.length ++ xs.drop cs.length = xs := by
      rcases (show cs.length = 0 ∨ xs.length = 0 by omega) with h1 | h1
      · obtain rfl := List.eq_nil_of_length_eq_zero h1; simp
      · obtain rfl := List.eq_nil_of_length_eq_zero h1; simp
    have := h w (by rw [e1]; exact hb) (Only.refl _ _)
    rw [h0] at this
    exact this
  · rcases hv.2 with ⟨_, e⟩ | ⟨b, so, c, e, h1, hc2, h3, h4⟩
    · subst e; simp at h0
    · have hcl : (cellsOf (cs.take xs.length)).length = min cs.length xs.length := by simp [cellsOf]; omega
      refine wpList_copy_own hgd d s 22 22 ho 33 Tryd.underlying22 size_u32 g pre.length xs.length cap ⟨b, so, none⟩ cs.length c hd (hs.trans e) (cellsOf (pre ++ (xs ++ post))).toArray 33 hb.1 (cellsOf (cs.take xs.length))
        hcl ?_ (by rw [hcl]; simp [cellsOf]; omega) ?_ ?_
      · intro j u hj
        have hjl : j < cs.length ∧ j < xs.length := by
          have := (List.getElem?_eq_some_iff.1 hj).1
          simp [cellsOf] at this; omega
        have := h3 j hjl.1
        simp [cellsOf, hjl.1, hjl.2] at hj
        rw [show (⟨b, so, none⟩ : Addr).add j = ⟨b, so + j, none⟩ from by unfold Addr.add; split <;> simp_all, this, ← hj]
        simp [hjl.1]
      · intro u hu
        simp only [cellsOf, List.mem_map] at hu
        obtain ⟨x, _, rfl⟩ := hu; rfl
      · have hle : (cs.take xs.length).length ≤ xs.length := by rw [List.length_take]; omega
        have e2 : (cellsOf (pre ++ (xs ++ post))).toArray.toList.take pre.length ++ (cellsOf (cs.take xs.length) ++ (cellsOf (pre ++ (xs ++ post))).toArray.toList.drop (pre.length + (cellsOf (cs.take xs.length)).length)) = cellsOf (pre ++ ((cs.take xs.length ++ xs.drop (cs.take xs.length).length) ++ post)) := splice_append hle
        have e4 : xs.drop (cs.take xs.length).length = xs.drop cs.length := by
          rw [List.length_take]
          rcases Nat.le_total cs.length xs.length with h5 | h5
          · rw [Nat.min_eq_right h5]
          · rw [Nat.min_eq_left h5, List.drop_eq_nil_of_le (Nat.le_refl _), List.drop_eq_nil_of_le h5]
        rw [e4] at e2
        rw [e2, hcl]
        refine h _ ⟨setRow_heap w g _ _ _ _ hb.1, hok⟩ ?_
        exact ⟨rfl, rfl, rfl, by simp [World.setRow], fun k _ he => setRow_other w g k _ (by simp at he; omega)⟩

/-- clear(s), s a piece of the call's own row. -/
theorem law_clear {w : World} {ops : Array Oper} {rest : List Oper} {o : Oper} {a : Act} {Q : Exit → Act → World → Prop} (hgd : o.guard = none) (d : Operand)
    (ho : o.op = .call { callee := .builtin .clear, args := #[d], argTypes := #[22] })
    (g off n cap : Nat) (hd : a.eval d = .slice (some ⟨g, off, none⟩) n cap)
    (pre xs post : List Nat) (hb : Blk w g (pre ++ (xs ++ post))) (hoff : off = pre.length) (hn : n = xs.length)
    (h : ∀ w', Blk w' g (pre ++ (List.replicate xs.length 0 ++ post)) → Only g w w' → wpList Tryd.prog ops Q rest (a.put o.dst (.tuple #[])) w') :
    wpList Tryd.prog ops Q (o :: rest) a w := by
  subst hoff hn
  refine wpList_plain hgd fun K hK => ?_
  have hrun : ∃ w', (Builtin.clear_ #[22] o.type #[.slice (some ⟨g, pre.length, none⟩) xs.length cap]).run Tryd.prog w = .ok (.tuple #[]) w' ∧ Blk w' g (pre ++ (List.replicate xs.length 0 ++ post)) ∧ Only g w w' := by
    obtain ⟨i, hi, hz0, hz1, hz2⟩ := info_parts info_u32
    by_cases h0 : xs.length = 0
    · obtain rfl := List.eq_nil_of_length_eq_zero h0
      refine ⟨w, ?_, by simpa using hb, Only.refl _ _⟩
      simp [Builtin.clear_, run_underlying Tryd.underlying22]
    · have hst := run_storeCells_at Tryd.prog g pre.length 33 (cellsOf (List.replicate xs.length 0)) 0 (cellsOf (pre ++ (xs ++ post))).toArray w hb.1 (by simp [cellsOf]) (by
        intro u hu
        simp only [cellsOf, List.mem_map] at hu
        obtain ⟨x, _, rfl⟩ := hu; rfl)
      have e3 : (Builtin.zeroCells (Value.int .u32 0).cells xs.length).toList = cellsOf (List.replicate xs.length 0) := by
        apply List.ext_getElem
        · simp [Builtin.zeroCells, Value.cells, cellsOf]
        · intro i h1 h2
          simp [Builtin.zeroCells, Value.cells, cellsOf, Nat.mod_one]
      have hrun0 : (Builtin.clear_ #[22] o.type #[.slice (some ⟨g, pre.length, none⟩) xs.length cap]).run Tryd.prog w = .ok (.tuple #[]) (w.setRow g ((cellsOf (pre ++ (xs ++ post))).toArray.toList.take (pre.length + 0) ++ cellsOf (List.replicate xs.length 0) ++ (cellsOf (pre ++ (xs ++ post))).toArray.toList.drop (pre.length + 0 + (cellsOf (List.replicate xs.length 0)).length)).toArray) := by
        rw [← e3] at hst ⊢
        cases hl : xs.length with
        | zero => omega
        | succ k =>
          rw [hl] at hst
          simp [Builtin.clear_, run_underlying Tryd.underlying22, zeroValue, typeInfo, hi, hz0]
          simp at hst
          simp [hst, Result.andThen]
      have e4 : (cellsOf (pre ++ (xs ++ post))).toArray.toList.take (pre.length + 0) ++ cellsOf (List.replicate xs.length 0) ++ (cellsOf (pre ++ (xs ++ post))).toArray.toList.drop (pre.length + 0 + (cellsOf (List.replicate xs.length 0)).length) = cellsOf (pre ++ (List.replicate xs.length 0 ++ post)) := by
        have e5 := splice_append (pre := pre) (xs := xs) (post := post) (cs := List.replicate xs.length 0) (by simp)
        unfold splice at e5
        simp only [List.length_replicate, List.drop_length, List.append_nil] at e5
        rw [← e5]
        simp
      rw [e4] at hrun0
      refine ⟨_, hrun0, ⟨setRow_heap w g _ _ _ _ hb.1, ?_⟩, ?_⟩
      · have h2 := hb.2
        have hp : Ok pre := fun x hx => h2 x (by simp [hx])
        have hq : Ok post := fun x hx => h2 x (by simp [hx])
        exact hp.append ((Ok.replicate _).append hq)
      · exact ⟨rfl, rfl, rfl, by simp [World.setRow], fun k _ he => setRow_other w g k _ (by simp at he; omega)⟩
  obtain ⟨w', hr, hb', ho'⟩ := hrun
  unfold Oper.wp
  simp [execOp, ho, resolve, invoke, builtin, hd, hr, Result.andThen]
  exact hK _ _ (h w' hb' ho')

theorem pow_split (r : Nat) (hr : r < 32) : 4294967296 = 2 ^ (32 - r) * 2 ^ r := by
  rw [← Nat.pow_add, show 32 - r + r = 32 by omega]
theorem pow_quot (r : Nat) (hr : r < 32) : 4294967296 / 2 ^ r = 2 ^ (32 - r) := by
  conv => lhs; rw [pow_split r hr]
  exact Nat.mul_div_cancel _ (Nat.two_pow_pos _)
theorem cast_pow2 (r : Nat) : ((2 : Int) ^ r) = ((2 ^ r : Nat) : Int) := by simp
theorem shl_or (x c r : Nat) (hr : r < 32) (hc : c < 2 ^ r) : bits .or .u32 ((x : Int) * 2 ^ r % 4294967296) (c : Int) = ((x * 2 ^ r % 4294967296 + c : Nat) : Int) := by
  have hp := pow_split r hr
  have h1 : 1 ≤ 2 ^ (32 - r) := Nat.two_pow_pos _
  have hle : 2 ^ r ≤ 4294967296 := by
    have := Nat.mul_le_mul_right (2 ^ r) h1; omega
  rw [show (x : Int) * 2 ^ r % 4294967296 = ((x * 2 ^ r % 4294967296 : Nat) : Int) by rw [cast_pow2]; simp, u32_or_nat _ _ (by omega) (by omega), nat_join r _ _ ?_ hc]
  rw [Nat.mod_mod_of_dvd _ ⟨2 ^ (32 - r), by rw [Nat.mul_comm]; exact hp⟩]
  exact Nat.mul_mod_left _ _
theorem shr_cast (x r : Nat) : (x : Int) / 2 ^ r = ((x / 2 ^ r : Nat) : Int) := by rw [cast_pow2]; simp

/-- One round of a shift up. -/
theorem up_step {P X Z c x p : Nat} (h : Z + c * P = p * X) (hc : c < p) (hp : 4294967296 % p = 0) (hp0 : 0 < p) (hx : x < 4294967296) :
    Z + P * (x * p % 4294967296 + c) + x / (4294967296 / p) * (P * 4294967296) = p * (X + P * x) := by
  have e1 : 4294967296 = p * (4294967296 / p) := by rw [Nat.mul_div_cancel' (Nat.dvd_of_mod_eq_zero hp)]
  have hq0 : 0 < 4294967296 / p := by
    rcases Nat.eq_zero_or_pos (4294967296 / p) with h0 | h0
    · rw [h0] at e1; omega
    · exact h0
  generalize 4294967296 / p = q at *
  have e2 : x * p % 4294967296 = p * (x % q) := by rw [e1, Nat.mul_comm x p, Nat.mul_mod_mul_left]
  have e3 := Nat.div_add_mod x q
  rw [e2]
  generalize x / q = u at *
  generalize x % q = v at *
  rw [e1]
  grind

set_option maxHeartbeats 2000000 in
theorem moveUp_any {w : World} {len off g cap : Nat} {xs post : List Nat} (k : Nat) (hb : Blk w g ([] ++ (xs ++ post))) (hlen : len = xs.length) (hofs : off = 0) (hcap : xs.length ≤ cap) (hcm : cap ≤ maxLen)
    (hs : xs.length ≤ 1000000000) (hk : k ≤ 1048576) (hwh : k / 32 < xs.length) (hfit : val xs * 2 ^ k < 4294967296 ^ xs.length) :
    Calls Tryd.prog 51 #[.slice (some ⟨g, off, none⟩) len cap, .int .i64 k] w fun e w' =>
      e = .returned (.tuple #[]) ∧ ∃ zs, zs.length = xs.length ∧ Blk w' g ([] ++ (zs ++ post)) ∧ Only g w w' ∧ val zs = val xs * 2 ^ k := by
  subst hlen hofs
  unfold maxLen at hcm
  have hR : Rd w (.slice (some ⟨g, 0, none⟩) xs.length cap) xs := Blk.rd hb cap hcap (by unfold maxLen; omega)
  have HR := hid hR
  have HB := hid hb
  clear hR hb
  have HBS : Hid (Blk w g (xs.take (k / 32) ++ (xs.drop (k / 32) ++ post))) := by
    show Blk _ _ _
    rw [← List.append_assoc, List.take_append_drop]; simpa using HB.out
  go_enter Tryd.func51, Tryd.ntmps51
  go_wp2_with (with_reducible refine law_copyM (by with_unfolding_all rfl) (.tmp 15) (.tmp 16) (by with_unfolding_all rfl) g (k / 32) (xs.length - k / 32) (cap - k / 32) _ (by with_unfolding_all rfl) (by with_unfolding_all rfl) (xs.take (k / 32)) (xs.drop (k / 32)) post xs HBS.out (by rw [List.length_take]; omega) (by rw [List.length_drop]) HR.out ?_)
  intro w1 hb1 ho1
  have HB1 : Hid (Blk w1 g ([] ++ (xs.take (k / 32) ++ (xs.take (xs.length - k / 32) ++ post)))) := by
    have e : xs.drop (k / 32 + xs.length) = [] := List.drop_eq_nil_of_le (by omega)
    rw [e] at hb1
    exact hid (by simpa using hb1)
  clear hb1
  go_wp2_with (with_reducible refine law_clear (by with_unfolding_all rfl) (.tmp 20) (by with_unfolding_all rfl) g 0 (k / 32) cap (by with_unfolding_all rfl) [] (xs.take (k / 32)) (xs.take (xs.length - k / 32) ++ post) HB1.out rfl (by rw [List.length_take]; omega) ?_)
  intro w2 hb2 ho2
  obtain ⟨Y, hY⟩ : ∃ Y, Y = List.replicate (k / 32) 0 ++ xs.take (xs.length - k / 32) := ⟨_, rfl⟩
  have hYl : Y.length = xs.length := by rw [hY, List.length_append, List.length_replicate, List.length_take]; omega
  have hYv : val Y = 4294967296 ^ (k / 32) * val (xs.take (xs.length - k / 32)) := by
    rw [hY, val_append, val_replicate, List.length_replicate]; omega
  have HB2 : Hid (Blk w2 g ([] ++ (Y ++ post))) := by
    rw [Nat.min_eq_left (by omega)] at hb2
    rw [hY]; exact hid (by simpa using hb2)
  have HO2 := hid (ho1.trans ho2)
  have hY0 : val (Y.take (k / 32)) = 0 := by
    rw [hY, List.take_append_of_le_length (by simp), List.take_of_length_le (by simp), val_replicate]
  have HY := hid (And.intro hYl (And.intro hYv hY0))
  clear hb2 ho1 ho2 hY hYl hYv hY0
  obtain ⟨p, hp⟩ : ∃ p, p = 2 ^ (k % 32) := ⟨_, rfl⟩
  have hp0 : 0 < p := by rw [hp]; exact Nat.two_pow_pos _
  have hpd : 4294967296 % p = 0 := by
    rw [hp, show 4294967296 = 2 ^ (32 - k % 32) * 2 ^ (k % 32) by rw [← Nat.pow_add, show 32 - k % 32 + k % 32 = 32 by omega]]
    exact Nat.mul_mod_left _ _
  have HP := hid (And.intro hp (And.intro hp0 hpd))
  clear hp hp0 hpd
  go_wp2
  go_loopw [6, 7] (fun cv iv wr => ∃ (i c : Nat) (zs : List Nat), k / 32 ≤ i ∧ i ≤ xs.length ∧ iv = .int .i64 i ∧ cv = .int .u32 c ∧ c < p ∧ c < 4294967296 ∧ zs.length = xs.length ∧ Blk wr g ([] ++ (zs ++ post)) ∧ Only g w wr ∧ zs.drop i = Y.drop i ∧
      val (zs.take i) + c * 4294967296 ^ i = p * val (Y.take i)) (fun _ iv _ => xs.length - (intOf iv).toNat)
  case atStart => exact ⟨k / 32, 0, Y, by omega, by omega, by go_num, rfl, HP.out.2.1, by omega, HY.out.1, HB2.out, HO2.out, rfl, by rw [HY.out.2.2]; simp⟩
  case round =>
    obtain ⟨i, c, zs, hi1, hi2, rfl, rfl, hcp, hc, hzl, hbz, hon, hdr, hv⟩ := hrel
    have H := hid (And.intro hzl (And.intro hbz (And.intro hon (And.intro hdr hv))))
    have HC := hid hcp
    clear hzl hbz hon hdr hv hcp
    by_cases hlt : i < xs.length
    · have hlz : i < zs.length := by rw [H.out.1]; exact hlt
      have hzk := H.out.2.1.mid i hlz
      have hfz := H.out.2.1.frozen (0 + i)
      simp only [List.length_nil, Nat.zero_add] at hzk hfz
      rw [getD_of_drop H.out.2.2.2.1] at hzk
      obtain ⟨x, hx⟩ : ∃ x, x = Y.getD i 0 := ⟨_, rfl⟩
      have hYok : Ok Y := HB2.out.okMid
      have hxb : x < 4294967296 := by rw [hx]; exact hYok.getD _
      rw [← hx] at hzk
      have HX := hid hx
      have HL := hid hlz
      clear hx hlz hYok
      go_wp2
      go_roundw
      case rel =>
        obtain ⟨q1, q2, q3, q4, q5⟩ := H.out
        obtain ⟨hp, hp0, hpd⟩ := HP.out
        have hcr : c < 2 ^ (k % 32) := by rw [← hp]; exact HC.out
        rw [shl_or x c (k % 32) (by omega) hcr, shr_cast]
        have hqd : 2 ^ (32 - k % 32) = 4294967296 / p := by rw [hp, pow_quot _ (by omega)]
        have hpe : p * (4294967296 / p) = 4294967296 := Nat.mul_div_cancel' (Nat.dvd_of_mod_eq_zero hpd)
        have hlow : x * p % 4294967296 + c < 4294967296 := by
          have hq0 : 0 < 4294967296 / p := by rw [← hqd]; exact Nat.two_pow_pos _
          generalize 4294967296 / p = q at *
          have hm : x * p % 4294967296 = p * (x % q) := by rw [← hpe, Nat.mul_comm x p, Nat.mul_mod_mul_left]
          have hxq := Nat.mod_lt x hq0
          have h7 : p * (x % q) + p ≤ p * q := by rw [← Nat.mul_succ]; exact Nat.mul_le_mul_left _ hxq
          have h8 := HC.out
          omega
        have hcar : x / (4294967296 / p) < p := by
          rw [Nat.div_lt_iff_lt_mul (by rw [← hqd]; exact Nat.two_pow_pos _), hpe]; exact hxb
        rw [hqd, ← hp]
        have hb3 := q2.setAt i HL.out ((x * p % 4294967296 + c : Nat) : Int) (x * p % 4294967296 + c) rfl hlow
        simp only [List.length_nil, Nat.zero_add] at hb3
        refine ⟨i + 1, x / (4294967296 / p), zs.set i (x * p % 4294967296 + c), by omega, by omega, by go_num, rfl, hcar, Nat.lt_of_le_of_lt (Nat.div_le_self _ _) hxb, by rw [set_len]; exact q1, hb3, q3.setv _ _, set_drop q4, ?_⟩
        rw [set_val HL.out, val_take_succ Y, ← HX.out, Nat.pow_succ]
        exact up_step q5 HC.out hpd hp0 hxb
      case measure => simp [intOf] <;> omega
    · go_wp2
      go_returns
      obtain ⟨q1, q2, q3, q4, q5⟩ := H.out
      obtain ⟨y1, y2, y3⟩ := HY.out
      have hie : i = xs.length := by omega
      subst hie
      refine ⟨rfl, zs, q1, q2, q3, ?_⟩
      rw [val_take_all (by omega), val_take_all (by omega), y2] at q5
      have hke : 2 ^ k = 4294967296 ^ (k / 32) * p := by
        rw [HP.out.1, pow32, ← Nat.pow_add]; congr 1; omega
      have hsp := val_split xs (xs.length - k / 32) (by omega)
      have hpw : 4294967296 ^ xs.length = 4294967296 ^ (xs.length - k / 32) * 4294967296 ^ (k / 32) := by rw [← Nat.pow_add]; congr 1; omega
      have hp0 := HP.out.2.1
      have hB0 : 0 < 4294967296 ^ (k / 32) := Nat.pow_pos (by omega)
      have hdz : val (xs.drop (xs.length - k / 32)) = 0 := by
        rcases Nat.eq_zero_or_pos (val (xs.drop (xs.length - k / 32))) with h0 | h0
        · exact h0
        · exfalso
          have h5 : 4294967296 ^ (xs.length - k / 32) ≤ val xs := by
            rw [hsp]
            have := Nat.mul_le_mul_left (4294967296 ^ (xs.length - k / 32)) h0
            omega
          have h6 : 4294967296 ^ xs.length ≤ val xs * 2 ^ k := by
            rw [hpw, hke, ← Nat.mul_assoc]
            exact Nat.le_trans (Nat.mul_le_mul_right _ h5) (Nat.le_mul_of_pos_right _ hp0)
          omega
      rw [hdz, Nat.mul_zero, Nat.add_zero] at hsp
      rw [← hsp] at q5
      have e9 : p * (4294967296 ^ (k / 32) * val xs) = val xs * 2 ^ k := by rw [hke]; grind
      rw [e9] at q5
      have hc0 : c = 0 := by
        rcases Nat.eq_zero_or_pos c with h0 | h0
        · exact h0
        · exfalso
          have : 1 * 4294967296 ^ xs.length ≤ c * 4294967296 ^ xs.length := Nat.mul_le_mul_right _ h0
          omega
      rw [hc0] at q5
      omega

end Go.Proofs.YtbkphjmhmfgpgabDoor
