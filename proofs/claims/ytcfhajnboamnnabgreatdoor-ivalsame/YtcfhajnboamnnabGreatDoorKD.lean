/- Shifts of nat: the laws for copy and clear over a row of the call's own, moveUp. -/
/- Shifts of nat: moveDown, Shl, Shr. -/
/- The second telling of shifts; within. -/
import Derived.Test.YtcfhajnboamnnabGreatDoorKC
import Derived.Deep.Cut
namespace Go.Proofs.YtcfhajnboamnnabGreatDoor
open Go.RowKit
set_option linter.unusedVariables false

/-- copy(dst, src), whichever is the longer one; src may lie in the same row. -/
theorem law_copyM {w : World} {ops : Array Oper} {rest : List Oper} {o : Oper} {a : Act} {Q : Exit → Act → World → Prop} (hgd : o.guard = none) (d s : Operand)
    (ho : o.op = .call { callee := .builtin .copy, args := #[d, s], argTypes := #[25, 25] })
    (g off n cap : Nat) (v : Value) (hd : a.eval d = .slice (some ⟨g, off, none⟩) n cap) (hs : a.eval s = v)
    (pre xs post cs : List Nat) (hb : Blk w g (pre ++ (xs ++ post))) (hoff : off = pre.length) (hn : n = xs.length) (hv : Rd w v cs)
    (h : ∀ w', Blk w' g (pre ++ ((cs.take xs.length ++ xs.drop cs.length) ++ post)) → Only g w w' → wpList Tryz.prog ops Q rest (a.put o.dst (goInt (min cs.length xs.length : Nat))) w') :
    wpList Tryz.prog ops Q (o :: rest) a w := by
  subst hoff hn
  have h2 := hb.2
  have hp : Ok pre := fun x hx => h2 x (by simp [hx])
  have hxk : Ok xs := fun x hx => h2 x (by simp [hx])
  have hq : Ok post := fun x hx => h2 x (by simp [hx])
  have hok : Ok (pre ++ ((cs.take xs.length ++ xs.drop cs.length) ++ post)) := hp.append (((hv.ok.take _).append (hxk.drop _)).append hq)
  by_cases h0 : min cs.length xs.length = 0
  · have hs' : ∃ sp sc, v = .slice sp cs.length sc := by
      rcases hv.2 with ⟨e, e2⟩ | ⟨b, off, c, e, _⟩
      · subst e2; exact ⟨none, 0, e⟩
      · exact ⟨_, _, e⟩
    obtain ⟨sp, sc, e⟩ := hs'
    refine wpList_copy_nothing hgd d s 25 25 ho 65 Tryz.underlying25 size_u32 (some ⟨g, pre.length, none⟩) sp xs.length cap cs.length sc hd (hs.trans e) h0 ?_
    have e1 : cs.take xs.length ++ xs.drop cs.length = xs := by
      rcases (show cs.length = 0 ∨ xs.length = 0 by omega) with h1 | h1
      · obtain rfl := List.eq_nil_of_length_eq_zero h1; simp
      · obtain rfl := List.eq_nil_of_length_eq_zero h1; simp
    have := h w (by rw [e1]; exact hb) (Only.refl _ _)
    rw [h0] at this
    exact this
  · rcases hv.2 with ⟨_, e⟩ | ⟨b, so, c, e, h1, hc2, h3, h4⟩
    · subst e; simp at h0
    · have hcl : (cellsOf (cs.take xs.length)).length = min cs.length xs.length := by simp [cellsOf]; omega
      refine wpList_copy_own hgd d s 25 25 ho 65 Tryz.underlying25 size_u32 g pre.length xs.length cap ⟨b, so, none⟩ cs.length c hd (hs.trans e) (cellsOf (pre ++ (xs ++ post))).toArray 65 hb.1 (cellsOf (cs.take xs.length))
        hcl ?_ (by rw [hcl]; simp [cellsOf]; omega) ?_ ?_
      · intro j u hj
        have hjl : j < cs.length ∧ j < xs.length := by
          have := (List.getElem?_eq_some_iff.1 hj).1
          simp [cellsOf] at this; omega
        have := h3 j hjl.1
        simp [cellsOf, hjl.1, hjl.2] at hj
        rw [show (⟨b, so, none⟩ : Addr).add j = ⟨b, so + j, none⟩ from by unfold Addr.add; split <;> simp_all, this, ← hj]
        simp [hjl.1]
      · intro u hu
        simp only [cellsOf, List.mem_map] at hu
        obtain ⟨x, _, rfl⟩ := hu; rfl
      · have hle : (cs.take xs.length).length ≤ xs.length := by rw [List.length_take]; omega
        have e2 : (cellsOf (pre ++ (xs ++ post))).toArray.toList.take pre.length ++ (cellsOf (cs.take xs.length) ++ (cellsOf (pre ++ (xs ++ post))).toArray.toList.drop (pre.length + (cellsOf (cs.take xs.length)).length)) = cellsOf (pre ++ ((cs.take xs.length ++ xs.drop (cs.take xs.length).length) ++ post)) := splice_append hle
        have e4 : xs.drop (cs.take xs.length).length = xs.drop cs.length := by
          rw [List.length_take]
          rcases Nat.le_total cs.length xs.length with h5 | h5
          · rw [Nat.min_eq_right h5]
          · rw [Nat.min_eq_left h5, List.drop_eq_nil_of_le (Nat.le_refl _), List.drop_eq_nil_of_le h5]
        rw [e4] at e2
        rw [e2, hcl]
        refine h _ ⟨setRow_heap w g _ _ _ _ hb.1, hok⟩ ?_
        exact ⟨rfl, rfl, rfl, by simp [World.setRow], fun k _ he => setRow_other w g k _ (by simp at he; omega)⟩

/-- clear(s), s a piece of the call's own row. -/
theorem law_clear {w : World} {ops : Array Oper} {rest : List Oper} {o : Oper} {a : Act} {Q : Exit → Act → World → Prop} (hgd : o.guard = none) (d : Operand)
    (ho : o.op = .call { callee := .builtin .clear, args := #[d], argTypes := #[25] })
    (g off n cap : Nat) (hd : a.eval d = .slice (some ⟨g, off, none⟩) n cap)
    (pre xs post : List Nat) (hb : Blk w g (pre ++ (xs ++ post))) (hoff : off = pre.length) (hn : n = xs.length)
    (h : ∀ w', Blk w' g (pre ++ (List.replicate xs.length 0 ++ post)) → Only g w w' → wpList Tryz.prog ops Q rest (a.put o.dst (.tuple #[])) w') :
    wpList Tryz.prog ops Q (o :: rest) a w := by
  subst hoff hn
  refine wpList_plain hgd fun K hK => ?_
  have hrun : ∃ w', (Builtin.clear_ #[25] o.type #[.slice (some ⟨g, pre.length, none⟩) xs.length cap]).run Tryz.prog w = .ok (.tuple #[]) w' ∧ Blk w' g (pre ++ (List.replicate xs.length 0 ++ post)) ∧ Only g w w' := by
    obtain ⟨i, hi, hz0, hz1, hz2⟩ := info_parts info_u32
    by_cases h0 : xs.length = 0
    · obtain rfl := List.eq_nil_of_length_eq_zero h0
      refine ⟨w, ?_, by simpa using hb, Only.refl _ _⟩
      simp [Builtin.clear_, run_underlying Tryz.underlying25]
    · have hst := run_storeCells_at Tryz.prog g pre.length 65 (cellsOf (List.replicate xs.length 0)) 0 (cellsOf (pre ++ (xs ++ post))).toArray w hb.1 (by simp [cellsOf]) (by
        intro u hu
        simp only [cellsOf, List.mem_map] at hu
        obtain ⟨x, _, rfl⟩ := hu; rfl)
      have e3 : (Builtin.zeroCells (Value.int .u32 0).cells xs.length).toList = cellsOf (List.replicate xs.length 0) := by
        apply List.ext_getElem
        · simp [Builtin.zeroCells, Value.cells, cellsOf]
        · intro i h1 h2
          simp [Builtin.zeroCells, Value.cells, cellsOf, Nat.mod_one]
      have hrun0 : (Builtin.clear_ #[25] o.type #[.slice (some ⟨g, pre.length, none⟩) xs.length cap]).run Tryz.prog w = .ok (.tuple #[]) (w.setRow g ((cellsOf (pre ++ (xs ++ post))).toArray.toList.take (pre.length + 0) ++ cellsOf (List.replicate xs.length 0) ++ (cellsOf (pre ++ (xs ++ post))).toArray.toList.drop (pre.length + 0 + (cellsOf (List.replicate xs.length 0)).length)).toArray) := by
        rw [← e3] at hst ⊢
        cases hl : xs.length with
        | zero => omega
        | succ k =>
          rw [hl] at hst
          simp [Builtin.clear_, run_underlying Tryz.underlying25, zeroValue, typeInfo, hi, hz0]
          simp at hst
          simp [hst, Result.andThen]
      have e4 : (cellsOf (pre ++ (xs ++ post))).toArray.toList.take (pre.length + 0) ++ cellsOf (List.replicate xs.length 0) ++ (cellsOf (pre ++ (xs ++ post))).toArray.toList.drop (pre.length + 0 + (cellsOf (List.replicate xs.length 0)).length) = cellsOf (pre ++ (List.replicate xs.length 0 ++ post)) := by
        have e5 := splice_append (pre := pre) (xs := xs) (post := post) (cs := List.replicate xs.length 0) (by simp)
        unfold splice at e5
        simp only [List.length_replicate, List.drop_length, List.append_nil] at e5
        rw [← e5]
        simp
      rw [e4] at hrun0
      refine ⟨_, hrun0, ⟨setRow_heap w g _ _ _ _ hb.1, ?_⟩, ?_⟩
      · have h2 := hb.2
        have hp : Ok pre := fun x hx => h2 x (by simp [hx])
        have hq : Ok post := fun x hx => h2 x (by simp [hx])
        exact hp.append ((Ok.replicate _).append hq)
      · exact ⟨rfl, rfl, rfl, by simp [World.setRow], fun k _ he => setRow_other w g k _ (by simp at he; omega)⟩
  obtain ⟨w', hr, hb', ho'⟩ := hrun
  unfold Oper.wp
  simp [execOp, ho, resolve, invoke, builtin, hd, hr, Result.andThen]
  exact hK _ _ (h w' hb' ho')

theorem pow_split (r : Nat) (hr : r < 32) : 4294967296 = 2 ^ (32 - r) * 2 ^ r := by
  rw [← Nat.pow_add, show 32 - r + r = 32 by omega]
theorem pow_quot (r : Nat) (hr : r < 32) : 4294967296 / 2 ^ r = 2 ^ (32 - r) := by
  conv => lhs; rw [pow_split r hr]
  exact Nat.mul_div_cancel _ (Nat.two_pow_pos _)
theorem cast_pow2 (r : Nat) : ((2 : Int) ^ r) = ((2 ^ r : Nat) : Int) := by simp
theorem shl_or (x c r : Nat) (hr : r < 32) (hc : c < 2 ^ r) : bits .or .u32 ((x : Int) * 2 ^ r % 4294967296) (c : Int) = ((x * 2 ^ r % 4294967296 + c : Nat) : Int) := by
  have hp := pow_split r hr
  have h1 : 1 ≤ 2 ^ (32 - r) := Nat.two_pow_pos _
  have hle : 2 ^ r ≤ 4294967296 := by
    have := Nat.mul_le_mul_right (2 ^ r) h1; omega
  rw [show (x : Int) * 2 ^ r % 4294967296 = ((x * 2 ^ r % 4294967296 : Nat) : Int) by rw [cast_pow2]; simp, u32_or_nat _ _ (by omega) (by omega), nat_join r _ _ ?_ hc]
  rw [Nat.mod_mod_of_dvd _ ⟨2 ^ (32 - r), by rw [Nat.mul_comm]; exact hp⟩]
  exact Nat.mul_mod_left _ _
theorem shr_cast (x r : Nat) : (x : Int) / 2 ^ r = ((x / 2 ^ r : Nat) : Int) := by rw [cast_pow2]; simp

/-- One round of a shift up. -/
theorem up_step {P X Z c x p : Nat} (h : Z + c * P = p * X) (hc : c < p) (hp : 4294967296 % p = 0) (hp0 : 0 < p) (hx : x < 4294967296) :
    Z + P * (x * p % 4294967296 + c) + x / (4294967296 / p) * (P * 4294967296) = p * (X + P * x) := by
  have e1 : 4294967296 = p * (4294967296 / p) := by rw [Nat.mul_div_cancel' (Nat.dvd_of_mod_eq_zero hp)]
  have hq0 : 0 < 4294967296 / p := by
    rcases Nat.eq_zero_or_pos (4294967296 / p) with h0 | h0
    · rw [h0] at e1; omega
    · exact h0
  generalize 4294967296 / p = q at *
  have e2 : x * p % 4294967296 = p * (x % q) := by rw [e1, Nat.mul_comm x p, Nat.mul_mod_mul_left]
  have e3 := Nat.div_add_mod x q
  rw [e2]
  generalize x / q = u at *
  generalize x % q = v at *
  rw [e1]
  grind

set_option maxHeartbeats 2000000 in
theorem moveUp_any {w : World} {len off g cap : Nat} {xs post : List Nat} (k : Nat) (hb : Blk w g ([] ++ (xs ++ post))) (hlen : len = xs.length) (hofs : off = 0) (hcap : xs.length ≤ cap) (hcm : cap ≤ maxLen)
    (hs : xs.length ≤ 1000000000) (hk : k ≤ 1048576) (hwh : k / 32 < xs.length) (hfit : val xs * 2 ^ k < 4294967296 ^ xs.length) :
    Calls Tryz.prog 132 #[.slice (some ⟨g, off, none⟩) len cap, .int .i64 k] w fun e w' =>
      e = .returned (.tuple #[]) ∧ ∃ zs, zs.length = xs.length ∧ Blk w' g ([] ++ (zs ++ post)) ∧ Only g w w' ∧ val zs = val xs * 2 ^ k := by
  subst hlen hofs
  unfold maxLen at hcm
  have hR : Rd w (.slice (some ⟨g, 0, none⟩) xs.length cap) xs := Blk.rd hb cap hcap (by unfold maxLen; omega)
  have HR := hid hR
  have HB := hid hb
  clear hR hb
  have HBS : Hid (Blk w g (xs.take (k / 32) ++ (xs.drop (k / 32) ++ post))) := by
    show Blk _ _ _
    rw [← List.append_assoc, List.take_append_drop]; simpa using HB.out
  go_enter Tryz.func132, Tryz.ntmps132
  go_wp2_with (with_reducible refine law_copyM (by with_unfolding_all rfl) (.tmp 15) (.tmp 16) (by with_unfolding_all rfl) g (k / 32) (xs.length - k / 32) (cap - k / 32) _ (by with_unfolding_all rfl) (by with_unfolding_all rfl) (xs.take (k / 32)) (xs.drop (k / 32)) post xs HBS.out (by rw [List.length_take]; omega) (by rw [List.length_drop]) HR.out ?_)
  intro w1 hb1 ho1
  have HB1 : Hid (Blk w1 g ([] ++ (xs.take (k / 32) ++ (xs.take (xs.length - k / 32) ++ post)))) := by
    have e : xs.drop (k / 32 + xs.length) = [] := List.drop_eq_nil_of_le (by omega)
    rw [e] at hb1
    exact hid (by simpa using hb1)
  clear hb1
  go_wp2_with (with_reducible refine law_clear (by with_unfolding_all rfl) (.tmp 20) (by with_unfolding_all rfl) g 0 (k / 32) cap (by with_unfolding_all rfl) [] (xs.take (k / 32)) (xs.take (xs.length - k / 32) ++ post) HB1.out rfl (by rw [List.length_take]; omega) ?_)
  intro w2 hb2 ho2
  obtain ⟨Y, hY⟩ : ∃ Y, Y = List.replicate (k / 32) 0 ++ xs.take (xs.length - k / 32) := ⟨_, rfl⟩
  have hYl : Y.length = xs.length := by rw [hY, List.length_append, List.length_replicate, List.length_take]; omega
  have hYv : val Y = 4294967296 ^ (k / 32) * val (xs.take (xs.length - k / 32)) := by
    rw [hY, val_append, val_replicate, List.length_replicate]; omega
  have HB2 : Hid (Blk w2 g ([] ++ (Y ++ post))) := by
    rw [Nat.min_eq_left (by omega)] at hb2
    rw [hY]; exact hid (by simpa using hb2)
  have HO2 := hid (ho1.trans ho2)
  have hY0 : val (Y.take (k / 32)) = 0 := by
    rw [hY, List.take_append_of_le_length (by simp), List.take_of_length_le (by simp), val_replicate]
  have HY := hid (And.intro hYl (And.intro hYv hY0))
  clear hb2 ho1 ho2 hY hYl hYv hY0
  obtain ⟨p, hp⟩ : ∃ p, p = 2 ^ (k % 32) := ⟨_, rfl⟩
  have hp0 : 0 < p := by rw [hp]; exact Nat.two_pow_pos _
  have hpd : 4294967296 % p = 0 := by
    rw [hp, show 4294967296 = 2 ^ (32 - k % 32) * 2 ^ (k % 32) by rw [← Nat.pow_add, show 32 - k % 32 + k % 32 = 32 by omega]]
    exact Nat.mul_mod_left _ _
  have HP := hid (And.intro hp (And.intro hp0 hpd))
  clear hp hp0 hpd
  go_wp2
  go_loopw [6, 7] (fun cv iv wr => ∃ (i c : Nat) (zs : List Nat), k / 32 ≤ i ∧ i ≤ xs.length ∧ iv = .int .i64 i ∧ cv = .int .u32 c ∧ c < p ∧ c < 4294967296 ∧ zs.length = xs.length ∧ Blk wr g ([] ++ (zs ++ post)) ∧ Only g w wr ∧ zs.drop i = Y.drop i ∧
      val (zs.take i) + c * 4294967296 ^ i = p * val (Y.take i)) (fun _ iv _ => xs.length - (intOf iv).toNat)
  case atStart => exact ⟨k / 32, 0, Y, by omega, by omega, by go_num, rfl, HP.out.2.1, by omega, HY.out.1, HB2.out, HO2.out, rfl, by rw [HY.out.2.2]; simp⟩
  case round =>
    obtain ⟨i, c, zs, hi1, hi2, rfl, rfl, hcp, hc, hzl, hbz, hon, hdr, hv⟩ := hrel
    have H := hid (And.intro hzl (And.intro hbz (And.intro hon (And.intro hdr hv))))
    have HC := hid hcp
    clear hzl hbz hon hdr hv hcp
    by_cases hlt : i < xs.length
    · have hlz : i < zs.length := by rw [H.out.1]; exact hlt
      have hzk := H.out.2.1.mid i hlz
      have hfz := H.out.2.1.frozen (0 + i)
      simp only [List.length_nil, Nat.zero_add] at hzk hfz
      rw [getD_of_drop H.out.2.2.2.1] at hzk
      obtain ⟨x, hx⟩ : ∃ x, x = Y.getD i 0 := ⟨_, rfl⟩
      have hYok : Ok Y := HB2.out.okMid
      have hxb : x < 4294967296 := by rw [hx]; exact hYok.getD _
      rw [← hx] at hzk
      have HX := hid hx
      have HL := hid hlz
      clear hx hlz hYok
      go_wp2
      go_roundw
      case rel =>
        obtain ⟨q1, q2, q3, q4, q5⟩ := H.out
        obtain ⟨hp, hp0, hpd⟩ := HP.out
        have hcr : c < 2 ^ (k % 32) := by rw [← hp]; exact HC.out
        rw [shl_or x c (k % 32) (by omega) hcr, shr_cast]
        have hqd : 2 ^ (32 - k % 32) = 4294967296 / p := by rw [hp, pow_quot _ (by omega)]
        have hpe : p * (4294967296 / p) = 4294967296 := Nat.mul_div_cancel' (Nat.dvd_of_mod_eq_zero hpd)
        have hlow : x * p % 4294967296 + c < 4294967296 := by
          have hq0 : 0 < 4294967296 / p := by rw [← hqd]; exact Nat.two_pow_pos _
          generalize 4294967296 / p = q at *
          have hm : x * p % 4294967296 = p * (x % q) := by rw [← hpe, Nat.mul_comm x p, Nat.mul_mod_mul_left]
          have hxq := Nat.mod_lt x hq0
          have h7 : p * (x % q) + p ≤ p * q := by rw [← Nat.mul_succ]; exact Nat.mul_le_mul_left _ hxq
          have h8 := HC.out
          omega
        have hcar : x / (4294967296 / p) < p := by
          rw [Nat.div_lt_iff_lt_mul (by rw [← hqd]; exact Nat.two_pow_pos _), hpe]; exact hxb
        rw [hqd, ← hp]
        have hb3 := q2.setAt i HL.out ((x * p % 4294967296 + c : Nat) : Int) (x * p % 4294967296 + c) rfl hlow
        simp only [List.length_nil, Nat.zero_add] at hb3
        refine ⟨i + 1, x / (4294967296 / p), zs.set i (x * p % 4294967296 + c), by omega, by omega, by go_num, rfl, hcar, Nat.lt_of_le_of_lt (Nat.div_le_self _ _) hxb, by rw [set_len]; exact q1, hb3, q3.setv _ _, set_drop q4, ?_⟩
        rw [set_val HL.out, val_take_succ Y, ← HX.out, Nat.pow_succ]
        exact up_step q5 HC.out hpd hp0 hxb
      case measure => simp [intOf] <;> omega
    · go_wp2
      go_returns
      obtain ⟨q1, q2, q3, q4, q5⟩ := H.out
      obtain ⟨y1, y2, y3⟩ := HY.out
      have hie : i = xs.length := by omega
      subst hie
      refine ⟨rfl, zs, q1, q2, q3, ?_⟩
      rw [val_take_all (by omega), val_take_all (by omega), y2] at q5
      have hke : 2 ^ k = 4294967296 ^ (k / 32) * p := by
        rw [HP.out.1, pow32, ← Nat.pow_add]; congr 1; omega
      have hsp := val_split xs (xs.length - k / 32) (by omega)
      have hpw : 4294967296 ^ xs.length = 4294967296 ^ (xs.length - k / 32) * 4294967296 ^ (k / 32) := by rw [← Nat.pow_add]; congr 1; omega
      have hp0 := HP.out.2.1
      have hB0 : 0 < 4294967296 ^ (k / 32) := Nat.pow_pos (by omega)
      have hdz : val (xs.drop (xs.length - k / 32)) = 0 := by
        rcases Nat.eq_zero_or_pos (val (xs.drop (xs.length - k / 32))) with h0 | h0
        · exact h0
        · exfalso
          have h5 : 4294967296 ^ (xs.length - k / 32) ≤ val xs := by
            rw [hsp]
            have := Nat.mul_le_mul_left (4294967296 ^ (xs.length - k / 32)) h0
            omega
          have h6 : 4294967296 ^ xs.length ≤ val xs * 2 ^ k := by
            rw [hpw, hke, ← Nat.mul_assoc]
            exact Nat.le_trans (Nat.mul_le_mul_right _ h5) (Nat.le_mul_of_pos_right _ hp0)
          omega
      rw [hdz, Nat.mul_zero, Nat.add_zero] at hsp
      rw [← hsp] at q5
      have e9 : p * (4294967296 ^ (k / 32) * val xs) = val xs * 2 ^ k := by rw [hke]; grind
      rw [e9] at q5
      have hc0 : c = 0 := by
        rcases Nat.eq_zero_or_pos c with h0 | h0
        · exact h0
        · exfalso
          have : 1 * 4294967296 ^ xs.length ≤ c * 4294967296 ^ xs.length := Nat.mul_le_mul_right _ h0
          omega
      rw [hc0] at q5
      omega

end Go.Proofs.YtcfhajnboamnnabGreatDoor

namespace Go.Proofs.YtcfhajnboamnnabGreatDoor
open Go.RowKit
set_option linter.unusedVariables false

theorem or_down (x c r : Nat) (hr : r < 32) (hx : x < 4294967296) (hc : c < 4294967296) (hd : c % 2 ^ (32 - r) = 0) : bits .or .u32 ((x : Int) / 2 ^ r) (c : Int) = ((x / 2 ^ r + c : Nat) : Int) := by
  have hlt : x / 2 ^ r < 2 ^ (32 - r) := by
    rw [Nat.div_lt_iff_lt_mul (Nat.two_pow_pos _), ← pow_split r hr]; exact hx
  have hle : x / 2 ^ r ≤ x := Nat.div_le_self _ _
  rw [shr_cast, u32_or_nat _ _ (by omega) hc, Nat.or_comm, nat_join (32 - r) _ _ hd hlt, Nat.add_comm]

theorem shl_down (x r : Nat) (hr : r < 32) : (x : Int) * 2 ^ (32 - r) % 4294967296 = ((x % 2 ^ r * 2 ^ (32 - r) : Nat) : Int) := by
  rw [cast_pow2]
  have e : x * 2 ^ (32 - r) % 4294967296 = x % 2 ^ r * 2 ^ (32 - r) := by
    conv => lhs; rw [pow_split r hr, Nat.mul_comm (2 ^ (32 - r)) (2 ^ r)]
    rw [Nat.mul_mod_mul_right]
  rw [← e]; simp

/-- One round of a shift down. -/
theorem down_step (x V r : Nat) (hr : r < 32) : (x + 4294967296 * V) / 2 ^ r = (x / 2 ^ r + V % 2 ^ r * 2 ^ (32 - r)) + 4294967296 * (V / 2 ^ r) ∧ (x + 4294967296 * V) % 2 ^ r = x % 2 ^ r := by
  have hp := pow_split r hr
  have hp0 : 0 < 2 ^ r := Nat.two_pow_pos _
  generalize hP : 2 ^ r = p at *
  generalize 2 ^ (32 - r) = q at *
  have hV := Nat.div_add_mod V p
  have e1 : x + 4294967296 * V = x + p * (q * V) := by rw [hp]; grind
  rw [e1]
  refine ⟨?_, Nat.add_mul_mod_self_left _ _ _⟩
  rw [Nat.add_mul_div_left _ _ hp0]
  have e2 : q * V = V % p * q + 4294967296 * (V / p) := by
    rw [hp]
    generalize V / p = a at *
    generalize V % p = b at *
    rw [← hV]; grind
  omega

theorem val_div_pow (xs : List Nat) (hok : Ok xs) (h : Nat) (hh : h ≤ xs.length) : val xs / 4294967296 ^ h = val (xs.drop h) := by
  have h1 := val_split xs h hh
  have h2 := val_take_lt hok h
  rw [h1, Nat.add_mul_div_left _ _ (Nat.pow_pos (by omega)), Nat.div_eq_of_lt h2]; omega

set_option maxHeartbeats 4000000 in
theorem moveDown_any {w : World} {len off g : Nat} {xs post : List Nat} (k : Nat) (hb : Blk w g ([] ++ (xs ++ post))) (hlen : len = xs.length) (hofs : off = 0)
    (hs : xs.length ≤ 1000000000) (hk : k ≤ 1048576) (hwh : k / 32 < xs.length) :
    Calls Tryz.prog 150 #[.slice (some ⟨g, off, none⟩) len len, .int .i64 k] w fun e w' =>
      e = .returned (.tuple #[]) ∧ ∃ zs, zs.length = xs.length ∧ Blk w' g ([] ++ (zs ++ post)) ∧ Only g w w' ∧ val zs = val xs / 2 ^ k := by
  subst hlen hofs
  obtain ⟨h, hh⟩ : ∃ h, h = k / 32 := ⟨_, rfl⟩
  obtain ⟨r, hr⟩ : ∃ r, r = k % 32 := ⟨_, rfl⟩
  have hr32 : r < 32 := by omega
  have hkk : k = 32 * h + r := by omega
  have hhn : h < xs.length := by omega
  have HKK := hid hkk
  have hD : Rd w (.slice (some ⟨g, h, none⟩) (xs.length - h) (xs.length - h)) (xs.drop h) := by
    have hb' : Blk w g (xs.take h ++ (xs.drop h ++ post)) := by
      rw [← List.append_assoc, List.take_append_drop]; simpa using hb
    have h3 := Blk.rd hb' (xs.length - h) (by rw [List.length_drop]; omega) (le_maxLen (by omega))
    rwa [List.length_take, Nat.min_eq_left (by omega), List.length_drop] at h3
  have HB := hid hb
  have HD := hid hD
  have hok : Ok xs := hb.okMid
  have HOK := hid hok
  clear hb hD hok
  go_enter Tryz.func150, Tryz.ntmps150
  have ek1 : (k : Int) / 32 = (h : Int) := by omega
  have ek2 : (k : Int) % 32 = (r : Int) := by omega
  have hkn : (h : Int) < xs.length := by omega
  clear hkk hh hr
  go_wp2_with (with_reducible refine law_copyM (by with_unfolding_all rfl) (.tmp 17) (.tmp 20) (by with_unfolding_all rfl) g 0 xs.length xs.length _ (by with_unfolding_all rfl) (by with_unfolding_all rfl) [] xs post (xs.drop h) HB.out rfl rfl HD.out ?_)
  intro w1 hb1 ho1
  have HB1 : Hid (Blk w1 g (xs.drop h ++ (xs.drop (xs.length - h) ++ post))) := by
    rw [List.take_of_length_le (by rw [List.length_drop]; omega)] at hb1
    exact hid hb1
  have hmin : min (xs.length - h) xs.length = xs.length - h := by omega
  have HO1 := hid ho1
  clear hb1 ho1
  have hYl : (xs.drop h).length = xs.length - h := List.length_drop
  have HYL := hid hYl
  clear hYl
  obtain ⟨D, hDe⟩ : ∃ D, D = xs.drop h := ⟨_, rfl⟩
  have hvD : val D = val xs / 4294967296 ^ h := by rw [hDe, val_div_pow xs HOK.out h (by omega)]
  have hDl : D.length = xs.length - h := by rw [hDe]; exact HYL.out
  have HVD := hid (And.intro hvD hDl)
  have HDE := hid hDe
  clear hvD hDl hDe
  by_cases h0 : h = 0
  · go_wp2_with (with_reducible refine law_clear (by with_unfolding_all rfl) (.tmp 24) (by with_unfolding_all rfl) g 0 0 0 (by with_unfolding_all rfl) [] [] (xs.drop h ++ (xs.drop (xs.length - h) ++ post)) (by simpa using HB1.out) rfl rfl ?_)
    intro w2 hb2 ho2
    have HB2 : Hid (Blk w2 g ([] ++ (D ++ (List.replicate h 0 ++ post)))) := by
      rw [HDE.out, h0]
      exact hid (by simpa using hb2)
    have HO2 := hid (HO1.out.trans ho2)
    clear hb2 ho2
    go_wp2
    go_loopw [7, 8] (fun cv iv wr => ∃ (j c : Nat) (zs : List Nat), j ≤ xs.length - h ∧ iv = .int .i64 ((j : Int) - 1) ∧ cv = .int .u32 c ∧ c < 4294967296 ∧ c = val (D.drop j) % 2 ^ r * 2 ^ (32 - r) ∧ zs.length = D.length ∧ Blk wr g ([] ++ (zs ++ (List.replicate h 0 ++ post))) ∧ Only g w wr ∧ zs.take j = D.take j ∧
        val (zs.drop j) = val (D.drop j) / 2 ^ r) (fun _ iv _ => (intOf iv + 1).toNat)
    case atStart =>
      refine ⟨xs.length - h, 0, D, by omega, by go_num, rfl, by omega, ?_, rfl, HB2.out, HO2.out, rfl, ?_⟩
      · rw [List.drop_eq_nil_of_le (by rw [HVD.out.2]; exact Nat.le_refl _)]; simp [val]
      · rw [List.drop_eq_nil_of_le (by rw [HVD.out.2]; exact Nat.le_refl _)]; simp [val]
    case round =>
      obtain ⟨j, c, zs, hj, rfl, rfl, hc, hce, hzl, hbz, hon, htk, hv⟩ := hrel
      have H := hid (And.intro hce (And.intro hzl (And.intro hbz (And.intro hon (And.intro htk hv)))))
      clear hce hzl hbz hon htk hv
      cases j with
      | zero =>
        go_wp2
        go_returns
        obtain ⟨q1, q2, q3, q4, q5, q6⟩ := H.out
        refine ⟨rfl, zs ++ List.replicate h 0, ?_, by simpa using q3, q4, ?_⟩
        · rw [List.length_append, List.length_replicate, q2, HVD.out.2]; omega
        · simp only [List.drop_zero] at q6
          rw [val_append, val_replicate, Nat.mul_zero, Nat.add_zero, q6, HVD.out.1, Nat.div_div_eq_div_mul, pow32, ← Nat.pow_add, HKK.out]
      | succ j =>
        have hlz : j < zs.length := by rw [H.out.2.1, HVD.out.2]; omega
        have hzk := H.out.2.2.1.mid j hlz
        have hfz := H.out.2.2.1.frozen (0 + j)
        simp only [List.length_nil, Nat.zero_add] at hzk hfz
        have e0 : zs.getD j 0 = D.getD j 0 := by
          have h1 := congrArg (fun l => l[j]?) H.out.2.2.2.2.1
          simp only [List.getElem?_take] at h1
          rw [if_pos (by omega), if_pos (by omega)] at h1
          rw [List.getD_eq_getElem?_getD, List.getD_eq_getElem?_getD, h1]
        rw [e0] at hzk
        clear e0
        obtain ⟨x, hx⟩ : ∃ x, x = D.getD j 0 := ⟨_, rfl⟩
        have hxb : x < 4294967296 := by rw [hx]; exact HB2.out.okMid.getD _
        rw [← hx] at hzk
        have HX := hid hx
        have HL := hid hlz
        clear hx hlz
        have hcd : c % 2 ^ (32 - r) = 0 := by rw [H.out.1]; exact Nat.mul_mod_left _ _
        have hor := or_down x c r hr32 hxb hc hcd
        have hsh := shl_down x r hr32
        have HJ := hid (down_step x (val (D.drop (j + 1))) r hr32)
        clear hcd
        go_wp2
        go_roundw
        case rel =>
          obtain ⟨q1, q2, q3, q4, q5, q6⟩ := H.out
          have e1 := val_drop_cons (xs := D) (k := j) (by rw [← q2]; exact HL.out)
          rw [← HX.out] at e1
          have hlow : x / 2 ^ r + c < 4294967296 := by
            have h1 : x / 2 ^ r < 2 ^ (32 - r) := by
              rw [Nat.div_lt_iff_lt_mul (Nat.two_pow_pos _), ← pow_split r hr32]; exact hxb
            have h2 : val (D.drop (j + 1)) % 2 ^ r < 2 ^ r := Nat.mod_lt _ (Nat.two_pow_pos _)
            have h3 : (val (D.drop (j + 1)) % 2 ^ r + 1) * 2 ^ (32 - r) ≤ 2 ^ r * 2 ^ (32 - r) := Nat.mul_le_mul_right _ h2
            rw [Nat.mul_comm (2 ^ r), ← pow_split r hr32, Nat.add_mul, ← q1] at h3
            omega
          have hc2 : x % 2 ^ r * 2 ^ (32 - r) < 4294967296 := by
            have h2 : x % 2 ^ r < 2 ^ r := Nat.mod_lt _ (Nat.two_pow_pos _)
            have h3 : (x % 2 ^ r + 1) * 2 ^ (32 - r) ≤ 2 ^ r * 2 ^ (32 - r) := Nat.mul_le_mul_right _ h2
            have h4 : 0 < 2 ^ (32 - r) := Nat.two_pow_pos _
            rw [Nat.mul_comm (2 ^ r), ← pow_split r hr32, Nat.add_mul] at h3
            omega
          have hb3 := q3.setAt j HL.out ((x / 2 ^ r + c : Nat) : Int) (x / 2 ^ r + c) rfl hlow
          simp only [List.length_nil, Nat.zero_add] at hb3
          refine ⟨j, x % 2 ^ r * 2 ^ (32 - r), zs.set j (x / 2 ^ r + c), by omega, by go_num, by rw [shl_down x r hr32], hc2, ?_, by rw [set_len]; exact q2, hb3, q4.setv _ _, ?_, ?_⟩
          · rw [e1, HJ.out.2]
          · rw [List.take_set_of_le (Nat.le_refl _)]
            have h1 := congrArg (List.take j) q5
            simpa [List.take_take] using h1
          · have e2 := val_drop_cons (xs := zs.set j (x / 2 ^ r + c)) (k := j) (by rw [set_len]; exact HL.out)
            rw [e2, drop_set_succ, q6, e1, HJ.out.1, show (zs.set j (x / 2 ^ r + c)).getD j 0 = x / 2 ^ r + c by simp [HL.out], q1]
        case measure => simp [intOf] <;> omega
  · go_wp2_with (with_reducible refine law_clear (by with_unfolding_all rfl) (.tmp 24) (by with_unfolding_all rfl) g (xs.length - h) (xs.length - (xs.length - h)) (xs.length - (xs.length - h)) (by with_unfolding_all rfl) (xs.drop h) (xs.drop (xs.length - h)) post HB1.out (by rw [List.length_drop]) (by rw [List.length_drop]) ?_)
    intro w2 hb2 ho2
    have HB2 : Hid (Blk w2 g ([] ++ (D ++ (List.replicate h 0 ++ post)))) := by
      rw [HDE.out]
      have e : xs.length - (xs.length - h) = h := by omega
      rw [e] at hb2
      exact hid (by simpa using hb2)
    have HO2 := hid (HO1.out.trans ho2)
    clear hb2 ho2
    go_wp2
    go_loopw [7, 8] (fun cv iv wr => ∃ (j c : Nat) (zs : List Nat), j ≤ xs.length - h ∧ iv = .int .i64 ((j : Int) - 1) ∧ cv = .int .u32 c ∧ c < 4294967296 ∧ c = val (D.drop j) % 2 ^ r * 2 ^ (32 - r) ∧ zs.length = D.length ∧ Blk wr g ([] ++ (zs ++ (List.replicate h 0 ++ post))) ∧ Only g w wr ∧ zs.take j = D.take j ∧
        val (zs.drop j) = val (D.drop j) / 2 ^ r) (fun _ iv _ => (intOf iv + 1).toNat)
    case atStart =>
      refine ⟨xs.length - h, 0, D, by omega, by go_num, rfl, by omega, ?_, rfl, HB2.out, HO2.out, rfl, ?_⟩
      · rw [List.drop_eq_nil_of_le (by rw [HVD.out.2]; exact Nat.le_refl _)]; simp [val]
      · rw [List.drop_eq_nil_of_le (by rw [HVD.out.2]; exact Nat.le_refl _)]; simp [val]
    case round =>
      obtain ⟨j, c, zs, hj, rfl, rfl, hc, hce, hzl, hbz, hon, htk, hv⟩ := hrel
      have H := hid (And.intro hce (And.intro hzl (And.intro hbz (And.intro hon (And.intro htk hv)))))
      clear hce hzl hbz hon htk hv
      cases j with
      | zero =>
        go_wp2
        go_returns
        obtain ⟨q1, q2, q3, q4, q5, q6⟩ := H.out
        refine ⟨rfl, zs ++ List.replicate h 0, ?_, by simpa using q3, q4, ?_⟩
        · rw [List.length_append, List.length_replicate, q2, HVD.out.2]; omega
        · simp only [List.drop_zero] at q6
          rw [val_append, val_replicate, Nat.mul_zero, Nat.add_zero, q6, HVD.out.1, Nat.div_div_eq_div_mul, pow32, ← Nat.pow_add, HKK.out]
      | succ j =>
        have hlz : j < zs.length := by rw [H.out.2.1, HVD.out.2]; omega
        have hzk := H.out.2.2.1.mid j hlz
        have hfz := H.out.2.2.1.frozen (0 + j)
        simp only [List.length_nil, Nat.zero_add] at hzk hfz
        have e0 : zs.getD j 0 = D.getD j 0 := by
          have h1 := congrArg (fun l => l[j]?) H.out.2.2.2.2.1
          simp only [List.getElem?_take] at h1
          rw [if_pos (by omega), if_pos (by omega)] at h1
          rw [List.getD_eq_getElem?_getD, List.getD_eq_getElem?_getD, h1]
        rw [e0] at hzk
        clear e0
        obtain ⟨x, hx⟩ : ∃ x, x = D.getD j 0 := ⟨_, rfl⟩
        have hxb : x < 4294967296 := by rw [hx]; exact HB2.out.okMid.getD _
        rw [← hx] at hzk
        have HX := hid hx
        have HL := hid hlz
        clear hx hlz
        have hcd : c % 2 ^ (32 - r) = 0 := by rw [H.out.1]; exact Nat.mul_mod_left _ _
        have hor := or_down x c r hr32 hxb hc hcd
        have hsh := shl_down x r hr32
        have HJ := hid (down_step x (val (D.drop (j + 1))) r hr32)
        clear hcd
        go_wp2
        go_roundw
        case rel =>
          obtain ⟨q1, q2, q3, q4, q5, q6⟩ := H.out
          have e1 := val_drop_cons (xs := D) (k := j) (by rw [← q2]; exact HL.out)
          rw [← HX.out] at e1
          have hlow : x / 2 ^ r + c < 4294967296 := by
            have h1 : x / 2 ^ r < 2 ^ (32 - r) := by
              rw [Nat.div_lt_iff_lt_mul (Nat.two_pow_pos _), ← pow_split r hr32]; exact hxb
            have h2 : val (D.drop (j + 1)) % 2 ^ r < 2 ^ r := Nat.mod_lt _ (Nat.two_pow_pos _)
            have h3 : (val (D.drop (j + 1)) % 2 ^ r + 1) * 2 ^ (32 - r) ≤ 2 ^ r * 2 ^ (32 - r) := Nat.mul_le_mul_right _ h2
            rw [Nat.mul_comm (2 ^ r), ← pow_split r hr32, Nat.add_mul, ← q1] at h3
            omega
          have hc2 : x % 2 ^ r * 2 ^ (32 - r) < 4294967296 := by
            have h2 : x % 2 ^ r < 2 ^ r := Nat.mod_lt _ (Nat.two_pow_pos _)
            have h3 : (x % 2 ^ r + 1) * 2 ^ (32 - r) ≤ 2 ^ r * 2 ^ (32 - r) := Nat.mul_le_mul_right _ h2
            have h4 : 0 < 2 ^ (32 - r) := Nat.two_pow_pos _
            rw [Nat.mul_comm (2 ^ r), ← pow_split r hr32, Nat.add_mul] at h3
            omega
          have hb3 := q3.setAt j HL.out ((x / 2 ^ r + c : Nat) : Int) (x / 2 ^ r + c) rfl hlow
          simp only [List.length_nil, Nat.zero_add] at hb3
          refine ⟨j, x % 2 ^ r * 2 ^ (32 - r), zs.set j (x / 2 ^ r + c), by omega, by go_num, by rw [shl_down x r hr32], hc2, ?_, by rw [set_len]; exact q2, hb3, q4.setv _ _, ?_, ?_⟩
          · rw [e1, HJ.out.2]
          · rw [List.take_set_of_le (Nat.le_refl _)]
            have h1 := congrArg (List.take j) q5
            simpa [List.take_take] using h1
          · have e2 := val_drop_cons (xs := zs.set j (x / 2 ^ r + c)) (k := j) (by rw [set_len]; exact HL.out)
            rw [e2, drop_set_succ, q6, e1, HJ.out.1, show (zs.set j (x / 2 ^ r + c)).getD j 0 = x / 2 ^ r + c by simp [HL.out], q1]
        case measure => simp [intOf] <;> omega

set_option maxHeartbeats 2000000 in
theorem moveDown_all {w : World} {len off g : Nat} {xs post : List Nat} (k : Nat) (hb : Blk w g ([] ++ (xs ++ post))) (hlen : len = xs.length) (hofs : off = 0)
    (hs : xs.length ≤ 1000000000) (hk : k ≤ 1048576) (hwh : xs.length ≤ k / 32) :
    Calls Tryz.prog 150 #[.slice (some ⟨g, off, none⟩) len len, .int .i64 k] w fun e w' =>
      e = .returned (.tuple #[]) ∧ ∃ zs, zs.length = xs.length ∧ Blk w' g ([] ++ (zs ++ post)) ∧ Only g w w' ∧ val zs = val xs / 2 ^ k := by
  subst hlen hofs
  obtain ⟨h, hh⟩ : ∃ h, h = k / 32 := ⟨_, rfl⟩
  have hz : val xs / 2 ^ k = 0 := by
    apply Nat.div_eq_of_lt
    have h1 := val_lt hb.okMid
    rw [pow32] at h1
    exact Nat.lt_of_lt_of_le h1 (Nat.pow_le_pow_right (by omega) (by omega))
  have HZ := hid hz
  have HB := hid hb
  have HR : Hid (Rd w (.slice (some ⟨g, 0, none⟩) 0 0) []) := hid (Blk.rd (pre := []) (xs := []) (post := xs ++ post) (by simpa using hb) 0 (by simp) (by simp))
  have ek1 : (k : Int) / 32 = (h : Int) := by omega
  have hkn : (xs.length : Int) ≤ h := by omega
  clear hb hz hh
  have hcs : ((xs.length ≤ h ∧ h ≤ xs.length) ∧ 0 < xs.length) ∨ (xs.length < h ∧ 0 < xs.length) ∨ xs.length = 0 := by omega
  rcases hcs with ⟨⟨hn0, hn1⟩, hp⟩ | ⟨hn0, hp⟩ | hn0
  rotate_right 1
  · obtain rfl := List.eq_nil_of_length_eq_zero hn0
    have HB1 : Hid (Blk w g ([] ++ ([] ++ post))) := HB
    by_cases hh0 : (0 : Int) < h
    all_goals
      go_enter Tryz.func150, Tryz.ntmps150
      go_wp2_with (with_reducible refine law_copyM (by with_unfolding_all rfl) (.tmp 17) (.tmp 20) (by with_unfolding_all rfl) g 0 0 0 _ (by with_unfolding_all rfl) (by with_unfolding_all rfl) [] [] post [] HB.out rfl rfl HR.out ?_)
    all_goals
      intro w1 hb1 ho1
      have HB1 : Hid (Blk w1 g ([] ++ ([] ++ post))) := hid hb1
      have HO1 := hid ho1
      clear hb1 ho1
      go_wp2_with (with_reducible refine law_clear (by with_unfolding_all rfl) (.tmp 24) (by with_unfolding_all rfl) g 0 0 0 (by with_unfolding_all rfl) [] [] post HB1.out rfl rfl ?_)
    all_goals
      intro w2 hb2 ho2
      have HB2 : Hid (Blk w2 g ([] ++ ([] ++ post))) := hid hb2
      have HO2 := hid (HO1.out.trans ho2)
      clear hb2 ho2
      go_wp2
      go_rounds 1
      go_returns
      exact ⟨rfl, [], by simp, HB2.out, HO2.out, by rw [HZ.out]; rfl⟩
  all_goals
    go_enter Tryz.func150, Tryz.ntmps150
    go_wp2_with (with_reducible refine law_copyM (by with_unfolding_all rfl) (.tmp 17) (.tmp 20) (by with_unfolding_all rfl) g 0 xs.length xs.length _ (by with_unfolding_all rfl) (by with_unfolding_all rfl) [] xs post [] HB.out rfl rfl HR.out ?_)
  all_goals
    intro w1 hb1 ho1
    have HB1 : Hid (Blk w1 g ([] ++ (xs ++ post))) := hid hb1
    have HO1 := hid ho1
    clear hb1 ho1
    go_wp2_with (with_reducible refine law_clear (by with_unfolding_all rfl) (.tmp 24) (by with_unfolding_all rfl) g 0 xs.length xs.length (by with_unfolding_all rfl) [] xs post HB1.out rfl rfl ?_)
  all_goals
    intro w2 hb2 ho2
    have HB2 : Hid (Blk w2 g ([] ++ (List.replicate xs.length 0 ++ post))) := hid hb2
    have HO2 := hid (HO1.out.trans ho2)
    clear hb2 ho2
    go_wp2
    go_rounds 1
    go_returns
    exact ⟨rfl, List.replicate xs.length 0, by simp, HB2.out, HO2.out, by rw [val_replicate, HZ.out]⟩

theorem moveDown_each {w : World} {len off g : Nat} {xs post : List Nat} (k : Nat) (hb : Blk w g ([] ++ (xs ++ post))) (hlen : len = xs.length) (hofs : off = 0)
    (hs : xs.length ≤ 1000000000) (hk : k ≤ 1048576) :
    Calls Tryz.prog 150 #[.slice (some ⟨g, off, none⟩) len len, .int .i64 k] w fun e w' =>
      e = .returned (.tuple #[]) ∧ ∃ zs, zs.length = xs.length ∧ Blk w' g ([] ++ (zs ++ post)) ∧ Only g w w' ∧ val zs = val xs / 2 ^ k := by
  by_cases h : k / 32 < xs.length
  · exact moveDown_any k hb hlen hofs hs hk h
  · exact moveDown_all k hb hlen hofs hs hk (by omega)

theorem nl_shl (m k : Nat) : nl (m * 2 ^ k) ≤ nl m + k / 32 + 1 := by
  rw [nl_le_iff]
  have h1 := lt_pow_nl m
  have h2 : 2 ^ k < 4294967296 ^ (k / 32 + 1) := by
    rw [pow32]; exact Nat.pow_lt_pow_right (by omega) (by omega)
  have := Nat.mul_lt_mul'' h1 h2
  rw [Nat.add_assoc, Nat.pow_add]; exact this

set_option maxHeartbeats 2000000 in
theorem shl_any {w : World} {a : Value} {m : Nat} (k : Nat) (ha : Num w a m) (hm : nl m ≤ 10000000) (hk : k ≤ 1048576) :
    Calls Tryz.prog 118 #[a, .int .i64 k] w fun e w' => ∃ v, e = .returned v ∧ Num w' v (m * 2 ^ k) ∧ Fwd w w' := by
  have hk1 : decide ((1048576 : Int) < (k : Int)) = false := decide_eq_false (by omega)
  go_enter Tryz.func118, Tryz.ntmps118
  go_wp2_with fail
  refine (trim_num ha).mono ?_
  rintro e w1 ⟨va, rfl, hna, hoa, rfl⟩
  clear ha hoa
  go_wp2_with fail
  refine (widen_any _ hna (by omega) (by show nl m + _ ≤ _; omega)).mono ?_
  rintro e w1 ⟨t, ht, rfl, hblk, hf1⟩
  have hte : ((k : Int) / 32 + 1).toNat = k / 32 + 1 := by omega
  rw [hte] at ht hblk
  have hv : val (lim m ++ List.replicate (k / 32 + 1) 0) = m := by rw [val_append, val_replicate, val_lim]; omega
  have hl : (lim m ++ List.replicate (k / 32 + 1) 0).length = t := by rw [ht, List.length_append, List.length_replicate]
  have hfit : val (lim m ++ List.replicate (k / 32 + 1) 0) * 2 ^ k < 4294967296 ^ (lim m ++ List.replicate (k / 32 + 1) 0).length := by
    rw [hv, hl, ht, ← nl_le_iff]; have := nl_shl m k; show _ ≤ nl m + (k / 32 + 1); omega
  have ht2 : t ≤ 1000000000 := by have : t = nl m + (k / 32 + 1) := ht; omega
  have HB : Hid (Blk w1 w.heap.size ([] ++ ((lim m ++ List.replicate (k / 32 + 1) 0) ++ []))) := hid (by simpa using hblk)
  have HF := hid (And.intro hfit (And.intro hl hv))
  clear hblk hfit hl hv ht hte
  have hkz : k / 32 < (lim m ++ List.replicate (k / 32 + 1) 0).length := by rw [List.length_append, List.length_replicate]; omega
  generalize lim m ++ List.replicate (k / 32 + 1) 0 = Z at *
  go_wp2_with fail
  refine (moveUp_any k HB.out HF.out.2.1.symm rfl (Nat.le_of_eq HF.out.2.1) (le_maxLen (by omega)) (by rw [HF.out.2.1]; exact ht2) hk hkz HF.out.1).mono ?_
  rintro e w2 ⟨rfl, zs, hzl, hbz, hon, hval⟩
  have hz : Rd w2 (.slice (some ⟨w.heap.size, 0, none⟩) t t) zs := by
    have h3 := Blk.rd hbz t (by rw [hzl, HF.out.2.1]; exact Nat.le_refl _) (le_maxLen (by omega))
    rwa [hzl, HF.out.2.1] at h3
  rw [HF.out.2.2] at hval
  have HV := hid hval
  clear hval hbz hzl
  go_wp2_with fail
  refine (trim_any hz).mono ?_
  rintro e w3 ⟨v, rfl, hn3, _, rfl⟩
  rw [HV.out] at hn3
  go_wp2
  go_ret
  exact ⟨_, rfl, hn3, hf1.wrote hon (Nat.le_refl _)⟩

set_option maxHeartbeats 2000000 in
/-- A shift out of bounds leaves the number. -/
theorem shl_odd {w : World} {a : Value} {m : Nat} (k : Int) (ha : Num w a m) (hm : nl m ≤ 10000000) (hk : k < 0 ∨ 1048576 < k) :
    Calls Tryz.prog 118 #[a, .int .i64 k] w fun e w' => ∃ v, e = .returned v ∧ Num w' v m ∧ Fwd w w' := by
  rcases hk with hk | hk
  · go_enter Tryz.func118, Tryz.ntmps118
    go_wp2_with fail
    refine (trim_num ha).mono ?_
    rintro e w1 ⟨va, rfl, hna, hoa, rfl⟩
    clear ha hoa
    go_wp2_with fail
    refine (clone_any hna (show nl m ≤ _ by omega)).mono ?_
    rintro e w1 ⟨rfl, hblk, hf1⟩
    go_wp2
    go_ret
    exact ⟨_, rfl, Blk.rdAll hblk _ (Nat.le_refl _) (le_maxLen (show nl m ≤ _ by omega)), hf1⟩
  · have hk0 : decide (k < 0) = false := decide_eq_false (by omega)
    have hk1 : decide ((1048576 : Int) < k) = true := decide_eq_true hk
    go_enter Tryz.func118, Tryz.ntmps118
    go_wp2_with fail
    refine (trim_num ha).mono ?_
    rintro e w1 ⟨va, rfl, hna, hoa, rfl⟩
    clear ha hoa
    go_wp2_with fail
    refine (clone_any hna (show nl m ≤ _ by omega)).mono ?_
    rintro e w1 ⟨rfl, hblk, hf1⟩
    go_wp2
    go_ret
    exact ⟨_, rfl, Blk.rdAll hblk _ (Nat.le_refl _) (le_maxLen (show nl m ≤ _ by omega)), hf1⟩

end Go.Proofs.YtcfhajnboamnnabGreatDoor

namespace Go.Proofs.YtcfhajnboamnnabGreatDoor
open Go.RowKit
set_option linter.unusedVariables false

theorem or_shl (x c r : Nat) (hr : r < 32) (hc : c < 2 ^ r) : bits .or .u32 (c : Int) ((x : Int) * 2 ^ r % 4294967296) = ((x * 2 ^ r % 4294967296 + c : Nat) : Int) := by
  have hp := pow_split r hr
  have h1 : 1 ≤ 2 ^ (32 - r) := Nat.two_pow_pos _
  have hle : 2 ^ r ≤ 4294967296 := by
    have := Nat.mul_le_mul_right (2 ^ r) h1; omega
  rw [show (x : Int) * 2 ^ r % 4294967296 = ((x * 2 ^ r % 4294967296 : Nat) : Int) by rw [cast_pow2]; simp, u32_or_nat _ _ (by omega) (by omega), Nat.or_comm, nat_join r _ _ ?_ hc]
  rw [Nat.mod_mod_of_dvd _ ⟨2 ^ (32 - r), by rw [Nat.mul_comm]; exact hp⟩]
  exact Nat.mul_mod_left _ _

set_option maxHeartbeats 2000000 in
theorem refShl_new {w : World} {a : Value} {m : Nat} (k : Nat) (ha : Num w a m) (hm : nl m ≤ 10000000) (hk : k ≤ 1048576) :
    Calls Tryz.prog 98 #[a, .int .i64 k] w fun e w' => ∃ v, e = .returned v ∧ Num w' v (m * 2 ^ k) ∧ Fwd w w' ∧ New w v := by
  obtain ⟨ao, ca, rfl, hca, hcma, hcella⟩ := ha.parts
  unfold maxLen at hcma
  have hk1 : decide ((1048576 : Int) < (k : Int)) = false := decide_eq_false (by omega)
  by_cases h0 : m = 0
  · have h1 : nl m = 0 := by rw [h0, nl_zero]
    have HN := hid h0
    have ha2 : Rd w (.slice ao 0 ca) (lim m) := by have := ha; rw [h1] at this; exact this
    have HA := hid ha2
    rw [h1]
    clear h0 ha ha2
    go_enter Tryz.func98, Tryz.ntmps98
    go_wp2_with fail
    refine (refTrim_new HA.out (show nl m ≤ _ by omega)).mono ?_
    rintro e w1 ⟨v, rfl, hv, hf1, hnw⟩
    rw [val_lim] at hv
    go_wp2
    go_ret
    refine ⟨_, rfl, ?_, hf1, hnw⟩
    rw [HN.out, Nat.zero_mul, ← HN.out]; exact hv
  · have hpos : 0 < nl m := by rw [nl_pos h0]; omega
    have hne : ((nl m : Int) == 0) = false := by simp; omega
    clear h0
    obtain ⟨h, hh⟩ : ∃ h, h = k / 32 := ⟨_, rfl⟩
    obtain ⟨r, hr⟩ : ∃ r, r = k % 32 := ⟨_, rfl⟩
    have hr32 : r < 32 := by omega
    have hkk : k = 32 * h + r := by omega
    have HKK := hid hkk
    have hh2 : h ≤ 32768 := by omega
    have ek1 : (k : Int) / 32 = (h : Int) := by omega
    have ek2 : (k : Int) % 32 = (r : Int) := by omega
    clear hkk hh hr
    go_enter Tryz.func98, Tryz.ntmps98
    go_wp2_with (first | (at_make; refine law_make rfl _ _ rfl .i64 .i64 _ _ (nl m + h + 1) rfl rfl (by omega) (by omega) (by omega) ?_))
    intro w1 hb1 hf1
    have HB1 := hid hb1
    clear hb1
    obtain ⟨p, hp⟩ : ∃ p, p = 2 ^ r := ⟨_, rfl⟩
    have hp0 : 0 < p := by rw [hp]; exact Nat.two_pow_pos _
    have hpd : 4294967296 % p = 0 := by rw [hp, pow_split r hr32]; exact Nat.mul_mod_left _ _
    have hpl : p ≤ 2147483648 := by rw [hp]; exact Nat.pow_le_pow_right (by omega) (by omega : r ≤ 31)
    have HP := hid (And.intro hp (And.intro hp0 (And.intro hpd hpl)))
    clear hp hp0 hpd hpl
    go_wp2
    go_loopw [8] (fun iv wr => ∃ (i c : Nat) (zs : List Nat), i ≤ nl m ∧ iv = .int .i64 i ∧ c < p ∧ zs.length = nl m + h + 1 ∧ zs.getD (i + h) 0 = c ∧ Blk wr w.heap.size ([] ++ (zs ++ [])) ∧ Only w.heap.size w1 wr ∧ val (zs.drop (i + h + 1)) = 0 ∧
        val (zs.take (i + h)) + c * 4294967296 ^ (i + h) = p * (4294967296 ^ h * val ((lim m).take i))) (fun iv _ => nl m - (intOf iv).toNat)
    case atStart =>
      refine ⟨0, 0, List.replicate (nl m + h + 1) 0, by omega, rfl, HP.out.2.1, by simp, ?_, by simpa using HB1.out, Only.refl _ _, by rw [List.drop_replicate, val_replicate], ?_⟩
      · rw [List.getD_eq_getElem?_getD, List.getElem?_replicate]; split <;> rfl
      · rw [List.take_replicate, val_replicate]; simp [val]
    case round =>
      obtain ⟨i, c, zs, hi, rfl, hc, hzl, hgc, hbz, hon, htop, hv⟩ := hrel
      have H := hid (And.intro hzl (And.intro hgc (And.intro hbz (And.intro hon (And.intro htop (And.intro hv hc))))))
      clear hzl hgc hbz hon htop hv hc
      by_cases hlt : i < nl m
      · obtain ⟨ab, aof, rfl, hxk⟩ := hcella i hlt
        obtain ⟨x, hx⟩ : ∃ x, x = (lim m).getD i 0 := ⟨_, rfl⟩
        rw [← hx] at hxk
        have hxb : x < 4294967296 := by rw [hx]; exact (ok_lim m).getD _
        have HX := hid hx
        clear hx
        have hxk1 := H.out.2.2.2.1.cell (hf1.cell hxk) (by have := World.block_lt_of_cell? w _ hxk; simp at this; simp; omega)
        have hlz : i + h < zs.length := by rw [H.out.1]; omega
        have hlz2 : i + h + 1 < zs.length := by rw [H.out.1]; omega
        have hz1 := H.out.2.2.1.mid (i + h) hlz
        have hz2 := H.out.2.2.1.mid (i + h + 1) hlz2
        have hf1' := H.out.2.2.1.frozen (0 + (i + h))
        have hf2' := H.out.2.2.1.frozen (0 + (i + h + 1))
        simp only [List.length_nil, Nat.zero_add] at hz1 hz2 hf1' hf2'
        rw [H.out.2.1] at hz1
        have hor := or_shl x c r hr32 (by rw [← HP.out.1]; exact H.out.2.2.2.2.2.2)
        have hxp : x * p ≤ 9223372036854775807 := by
          have := Nat.mul_le_mul (show x ≤ 4294967295 by omega) HP.out.2.2.2
          omega
        have hbd : (x : Int) * 2 ^ r ≤ 9223372036854775807 := by
          rw [cast_pow2, ← HP.out.1, ← Int.natCast_mul]; omega
        have hbd0 : 0 ≤ (x : Int) * 2 ^ r := by
          rw [cast_pow2, ← Int.natCast_mul]; omega
        have HL := hid (And.intro hlz hlz2)
        clear hlz hlz2 hxp
        go_wp2
        go_roundw
        case rel =>
          obtain ⟨q1, q2, q3, q4, q5, q6, q7⟩ := H.out
          obtain ⟨hp, hp0, hpd, hpl⟩ := HP.out
          have hpe : p * (4294967296 / p) = 4294967296 := Nat.mul_div_cancel' (Nat.dvd_of_mod_eq_zero hpd)
          have hq0 : 0 < 4294967296 / p := by
            rcases Nat.eq_zero_or_pos (4294967296 / p) with h0 | h0
            · rw [h0] at hpe; omega
            · exact h0
          have hlow : x * p % 4294967296 + c < 4294967296 := by
            generalize 4294967296 / p = q at *
            have hm : x * p % 4294967296 = p * (x % q) := by rw [← hpe, Nat.mul_comm x p, Nat.mul_mod_mul_left]
            have hxq := Nat.mod_lt x hq0
            have h7 : p * (x % q) + p ≤ p * q := by rw [← Nat.mul_succ]; exact Nat.mul_le_mul_left _ hxq
            omega
          have hce : x * p / 4294967296 = x / (4294967296 / p) := by
            conv => lhs; rw [← hpe, Nat.mul_comm p (4294967296 / p)]
            exact Nat.mul_div_mul_right _ _ hp0
          have hcar : x / (4294967296 / p) < p := by rw [Nat.div_lt_iff_lt_mul hq0, hpe]; exact hxb
          have i1 : (x : Int) * 2 ^ r % 4294967296 + (c : Int) = ((x * p % 4294967296 + c : Nat) : Int) := by rw [cast_pow2, ← hp]; simp
          have i2 : (x : Int) * 2 ^ r / 4294967296 = ((x / (4294967296 / p) : Nat) : Int) := by rw [← hce, cast_pow2, ← hp]; simp
          rw [i1, i2]
          have hb3 := q3.setAt (i + h) HL.out.1 ((x * p % 4294967296 + c : Nat) : Int) (x * p % 4294967296 + c) rfl hlow
          have hb4 := hb3.setAt (i + h + 1) (by rw [set_len]; exact HL.out.2) ((x / (4294967296 / p) : Nat) : Int) (x / (4294967296 / p)) rfl (by omega)
          simp only [List.length_nil, Nat.zero_add] at hb4
          have ei : i + 1 + h = i + h + 1 := by omega
          refine ⟨i + 1, x / (4294967296 / p), (zs.set (i + h) (x * p % 4294967296 + c)).set (i + h + 1) (x / (4294967296 / p)), by omega, by go_num, hcar, by rw [set_len, set_len]; exact q1, ?_, hb4, (q4.setv _ _).setv _ _, ?_, ?_⟩
          · rw [ei]; simp [HL.out.2]
          · rw [ei, drop_set_succ, List.drop_set_of_lt (by omega)]
            have e5 := val_drop_cons (xs := zs) (k := i + h + 1) HL.out.2
            rw [q5] at e5; omega
          · rw [ei, List.take_set_of_le (Nat.le_refl _), set_val HL.out.1, val_take_succ (lim m), ← HX.out, Nat.pow_succ]
            have e6 := up_step (P := 4294967296 ^ (i + h)) (X := 4294967296 ^ h * val ((lim m).take i)) (x := x) q6 q7 hpd hp0 hxb
            rw [e6, Nat.pow_add]; grind
        case measure => simp [intOf] <;> omega
      · have hz : Rd wr (.slice (some ⟨w.heap.size, 0, none⟩) (nl m + h + 1) (nl m + h + 1)) zs := by
          have h3 := Blk.rd H.out.2.2.1 (nl m + h + 1) (by rw [H.out.1]; exact Nat.le_refl _) (le_maxLen (by omega))
          rwa [H.out.1] at h3
        go_wp2_with fail
        refine (refTrim_new hz (by rw [H.out.1]; omega)).mono ?_
        rintro e w2 ⟨v, rfl, hnv, hf2, hnw⟩
        have hvz : val zs = m * 2 ^ k := by
          obtain ⟨q1, q2, q3, q4, q5, q6, q7⟩ := H.out
          have hie : i = nl m := by omega
          rw [hie] at q2 q5 q6
          have e7 := val_split zs (nl m + h) (by omega)
          have e8 := val_drop_cons (xs := zs) (k := nl m + h) (by omega)
          rw [q2, q5, Nat.mul_zero, Nat.add_zero] at e8
          rw [e8] at e7
          rw [val_take_all (xs := lim m) (show nl m ≤ nl m from Nat.le_refl _), val_lim] at q6
          rw [e7, Nat.mul_comm (4294967296 ^ (nl m + h)) c, q6, HP.out.1, HKK.out, Nat.pow_add, pow32]; grind
        rw [hvz] at hnv
        clear hvz
        go_wp2
        go_ret
        exact ⟨_, rfl, hnv, (hf1.wrote H.out.2.2.2.1 (Nat.le_refl _)).trans hf2, hnw.up (hf1.wrote H.out.2.2.2.1 (Nat.le_refl _))⟩

theorem refShl_any {w : World} {a : Value} {m : Nat} (k : Nat) (ha : Num w a m) (hm : nl m ≤ 10000000) (hk : k ≤ 1048576) :
    Calls Tryz.prog 98 #[a, .int .i64 k] w fun e w' => ∃ v, e = .returned v ∧ Num w' v (m * 2 ^ k) ∧ Fwd w w' :=
  (refShl_new k ha hm hk).mono fun e w' ⟨v, h1, h2, h3, _⟩ => ⟨v, h1, h2, h3⟩

/-- A limb of a number that is shifted down. -/
theorem down_limb (V i r : Nat) (hr : r < 32) : V / 2 ^ r / 4294967296 ^ i % 4294967296 = (V / 4294967296 ^ i % 4294967296 + 4294967296 * (V / 4294967296 ^ (i + 1) % 4294967296)) / 2 ^ r % 4294967296 := by
  have hp := pow_split r hr
  have hp0 : 0 < 2 ^ r := Nat.two_pow_pos _
  rw [Nat.div_div_eq_div_mul, Nat.mul_comm, ← Nat.div_div_eq_div_mul, Nat.pow_succ, ← Nat.div_div_eq_div_mul]
  generalize V / 4294967296 ^ i = U
  generalize 2 ^ r = p at *
  generalize 2 ^ (32 - r) = q at *
  have e1 : U = (U % 4294967296 + 4294967296 * (U / 4294967296 % 4294967296)) + p * (4294967296 * (q * (U / 4294967296 / 4294967296))) := by
    have a1 := Nat.div_add_mod U 4294967296
    have a2 := Nat.div_add_mod (U / 4294967296) 4294967296
    have a3 : p * (4294967296 * (q * (U / 4294967296 / 4294967296))) = 4294967296 * (4294967296 * (U / 4294967296 / 4294967296)) := by
      conv => rhs; rw [hp]
      grind
    rw [a3]; omega
  conv => lhs; rw [e1]
  rw [Nat.add_mul_div_left _ _ hp0, Nat.add_mul_mod_self_left]

theorem val_mod_pow (xs : List Nat) (hok : Ok xs) (h : Nat) : val xs / 4294967296 ^ h % 4294967296 = xs.getD h 0 := by
  by_cases hh : h < xs.length
  · rw [val_div_pow xs hok h (by omega), val_drop_cons hh]
    have := hok.getD h
    omega
  · have h1 := val_lt hok
    have h2 : 4294967296 ^ xs.length ≤ 4294967296 ^ h := Nat.pow_le_pow_right (by omega) (by omega)
    rw [Nat.div_eq_of_lt (by omega), List.getD_eq_getElem?_getD, List.getElem?_eq_none (by omega)]; rfl

theorem num_limb (m h : Nat) : (lim m).getD h 0 = m / 4294967296 ^ h % 4294967296 := by
  rw [← val_mod_pow (lim m) (ok_lim m) h, val_lim]

set_option maxHeartbeats 2000000 in
theorem refShr_new {w : World} {a : Value} {m : Nat} (k : Nat) (ha : Num w a m) (hm : nl m ≤ 10000000) (hk : k ≤ 1048576) :
    Calls Tryz.prog 107 #[a, .int .i64 k] w fun e w' => ∃ v, e = .returned v ∧ Num w' v (m / 2 ^ k) ∧ Fwd w w' ∧ New w v := by
  obtain ⟨ao, ca, rfl, hca, hcma, hcella⟩ := ha.parts
  unfold maxLen at hcma
  clear hcella
  have hk1 : decide ((1048576 : Int) < (k : Int)) = false := decide_eq_false (by omega)
  obtain ⟨h, hh⟩ : ∃ h, h = k / 32 := ⟨_, rfl⟩
  obtain ⟨r, hr⟩ : ∃ r, r = k % 32 := ⟨_, rfl⟩
  have hr32 : r < 32 := by omega
  have hkk : k = 32 * h + r := by omega
  have HKK := hid hkk
  have hh2 : h ≤ 32768 := by omega
  have ek1 : (k : Int) / 32 = (h : Int) := by omega
  have ek2 : (k : Int) % 32 = (r : Int) := by omega
  clear hkk hh hr
  by_cases hle : nl m ≤ h
  · have hz : m / 2 ^ k = 0 := by
      apply Nat.div_eq_of_lt
      have h1 := (nl_le_iff m h).1 hle
      rw [pow32] at h1
      exact Nat.lt_of_lt_of_le h1 (Nat.pow_le_pow_right (by omega) (by have := HKK.out; omega))
    have HZ := hid hz
    clear hz
    go_enter Tryz.func107, Tryz.ntmps107
    go_wp2
    go_ret
    refine ⟨_, rfl, ?_, Fwd.refl _, by intro b hb; simp [Value.ownBlock] at hb⟩
    rw [HZ.out]; exact num_nil _
  · have hgt : h < nl m := by omega
    clear hle
    go_enter Tryz.func107, Tryz.ntmps107
    go_wp2_with (first | (at_make; refine law_make rfl _ _ rfl .i64 .i64 _ _ (nl m - h) rfl rfl (by omega) (by omega) (by omega) ?_))
    intro w1 hb1 hf1
    have HB1 := hid hb1
    have hra := ha.fwd hf1
    have hoa := ha.off (Nat.le_refl w.heap.size)
    clear hb1
    obtain ⟨V, hV⟩ : ∃ V, V = m / 4294967296 ^ h := ⟨_, rfl⟩
    have hVl : ∀ i, (lim m).getD (i + h) 0 = V / 4294967296 ^ i % 4294967296 := by
      intro i
      rw [num_limb, hV, Nat.div_div_eq_div_mul, ← Nat.pow_add, Nat.add_comm]
    have hVk : V / 2 ^ r = m / 2 ^ k := by rw [hV, Nat.div_div_eq_div_mul, pow32, ← Nat.pow_add, HKK.out]
    have hVb : V < 4294967296 ^ (nl m - h) := by
      rw [hV, Nat.div_lt_iff_lt_mul (Nat.pow_pos (by omega)), ← Nat.pow_add, show nl m - h + h = nl m by omega]
      exact lt_pow_nl m
    have HV := hid (And.intro hVl (And.intro hVk hVb))
    clear hVl hVk hVb hV
    go_wp2
    go_loopw [8] (fun iv wr => ∃ (i : Nat) (zs : List Nat), i ≤ nl m - h ∧ iv = .int .i64 i ∧ zs.length = nl m - h ∧ Blk wr w.heap.size ([] ++ (zs ++ [])) ∧ Only w.heap.size w1 wr ∧
        val (zs.take i) = V / 2 ^ r % 4294967296 ^ i) (fun iv _ => nl m - h - (intOf iv).toNat)
    case atStart => exact ⟨0, List.replicate (nl m - h) 0, by omega, rfl, by simp, by simpa using HB1.out, Only.refl _ _, by simp [val, Nat.mod_one]⟩
    case round =>
      obtain ⟨i, zs, hi, rfl, hzl, hbz, hon, hv⟩ := hrel
      have H := hid (And.intro hzl (And.intro hbz (And.intro hon hv)))
      clear hzl hbz hon hv
      by_cases hlt : i < nl m - h
      · have hlz : i < zs.length := by rw [H.out.1]; exact hlt
        have hzk := H.out.2.1.mid i hlz
        have hfz := H.out.2.1.frozen (0 + i)
        simp only [List.length_nil, Nat.zero_add] at hzk hfz
        have HL := hid hlz
        clear hlz
        have hra2 := hra.only H.out.2.2.1 hoa
        obtain ⟨x, hx⟩ : ∃ x, x = (lim m).getD (i + h) 0 := ⟨_, rfl⟩
        obtain ⟨y, hy⟩ : ∃ y, y = (lim m).getD (i + h + 1) 0 := ⟨_, rfl⟩
        have hxb : x < 4294967296 := by rw [hx]; exact (ok_lim m).getD _
        have hyb : y < 4294967296 := by rw [hy]; exact (ok_lim m).getD _
        have c1 := refAt_any hra2 (i + h) (by omega)
        have c2 := refAt_any hra2 (i + h + 1) (by omega)
        rw [← hx] at c1
        rw [← hy] at c2
        simp only [Int.natCast_add, Int.natCast_one] at c1 c2
        have C1 := hid c1
        have C2 := hid c2
        have HX := hid hx
        have HY := hid hy
        have hor := or_join2 x y hxb hyb
        obtain ⟨t, ht⟩ : ∃ t, t = y * 4294967296 + x := ⟨_, rfl⟩
        rw [← ht] at hor
        have htb : t < 18446744073709551616 := by omega
        have HT := hid ht
        clear c1 c2 hx hy ht
        go_wp2_with fail
        refine C1.out.mono ?_
        rintro e w2 ⟨rfl, rfl⟩
        go_wp2_with fail
        refine C2.out.mono ?_
        rintro e w2 ⟨rfl, rfl⟩
        go_wp2
        go_roundw
        case rel =>
          obtain ⟨q1, q2, q3, q4⟩ := H.out
          have hb3 := q2.setAt i HL.out ((t : Int) / 2 ^ r % 4294967296) (t / 2 ^ r % 4294967296) (by rw [shr_cast]; simp) (by omega)
          simp only [List.length_nil, Nat.zero_add] at hb3
          refine ⟨i + 1, zs.set i (t / 2 ^ r % 4294967296), by omega, by go_num, by rw [set_len]; exact q1, hb3, q3.setv _ _, ?_⟩
          rw [set_val HL.out, q4, Nat.mod_pow_succ, down_limb V i r hr32]
          have hxv : x = V / 4294967296 ^ i % 4294967296 := by rw [HX.out]; exact HV.out.1 i
          have hyv : y = V / 4294967296 ^ (i + 1) % 4294967296 := by rw [HY.out, ← HV.out.1 (i + 1)]; congr 1; omega
          rw [HT.out, ← hxv, ← hyv, Nat.mul_comm y, Nat.add_comm (4294967296 * y)]
        case measure => simp [intOf] <;> omega
      · have hz : Rd wr (.slice (some ⟨w.heap.size, 0, none⟩) (nl m - h) (nl m - h)) zs := by
          have h3 := Blk.rd H.out.2.1 (nl m - h) (by rw [H.out.1]; exact Nat.le_refl _) (le_maxLen (by omega))
          rwa [H.out.1] at h3
        go_wp2_with fail
        refine (refTrim_new hz (by rw [H.out.1]; omega)).mono ?_
        rintro e w2 ⟨v, rfl, hnv, hf2, hnw⟩
        have hvz : val zs = m / 2 ^ k := by
          obtain ⟨q1, q2, q3, q4⟩ := H.out
          have hie : i = nl m - h := by omega
          rw [hie, val_take_all (by omega)] at q4
          rw [q4, ← HV.out.2.1]
          exact Nat.mod_eq_of_lt (Nat.lt_of_le_of_lt (Nat.div_le_self _ _) HV.out.2.2)
        rw [hvz] at hnv
        clear hvz
        go_wp2
        go_ret
        exact ⟨_, rfl, hnv, (hf1.wrote H.out.2.2.1 (Nat.le_refl _)).trans hf2, hnw.up (hf1.wrote H.out.2.2.1 (Nat.le_refl _))⟩

theorem refShr_any {w : World} {a : Value} {m : Nat} (k : Nat) (ha : Num w a m) (hm : nl m ≤ 10000000) (hk : k ≤ 1048576) :
    Calls Tryz.prog 107 #[a, .int .i64 k] w fun e w' => ∃ v, e = .returned v ∧ Num w' v (m / 2 ^ k) ∧ Fwd w w' :=
  (refShr_new k ha hm hk).mono fun e w' ⟨v, h1, h2, h3, _⟩ => ⟨v, h1, h2, h3⟩

end Go.Proofs.YtcfhajnboamnnabGreatDoor
