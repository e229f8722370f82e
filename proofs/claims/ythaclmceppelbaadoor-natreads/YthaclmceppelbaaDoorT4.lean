/- Contract of the second telling's Text. -/
import Derived.Test.YthaclmceppelbaaDoorT3
namespace Go.Proofs.YthaclmceppelbaaDoor
open Go.RowKit
set_option linter.unusedVariables false

theorem BlkB.one (w : World) (x : Nat) (hx : x < 256) (v : Int) (hv : v = (x : Int)) : BlkB (w.alloc (.cells #[.int .u8 v] 5)) w.heap.size ([] ++ ([x] ++ [])) := by
  subst hv
  refine ⟨?_, by intro y hy; simp at hy; omega⟩
  rw [heap_alloc_new]; rfl

theorem strOf_cons (d : Nat) (T : List Nat) : strOf [48 + d] ++ strOf (asc T) = strOf (asc (d :: T)) := by
  apply strOf_of
  rw [ByteArray.data_append, Array.toList_append, strOf_list, strOf_list]
  rfl
theorem strOf_app (T D : List Nat) : strOf (asc T) ++ strOf (asc D) = strOf (asc (T ++ D)) := by
  apply strOf_of
  rw [ByteArray.data_append, Array.toList_append, strOf_list, strOf_list]
  simp [asc]
theorem digits_most {n k : Nat} (h : 10 ^ k ≤ n) : k < 10 * nl n := by
  have h1 := lt_pow_nl n
  have h2 : 4294967296 ^ nl n ≤ 10 ^ (10 * nl n) := by
    rw [Nat.pow_mul]; exact Nat.pow_le_pow_left (by decide) _
  exact (Nat.pow_lt_pow_iff_right (show 1 < 10 by omega)).1 (Nat.lt_of_le_of_lt h (Nat.lt_of_lt_of_le h1 h2))

theorem text_next {n R R' rn : Nat} {D T : List Nat} (hn : n = R * 10 ^ D.length + dval D) (hR : R = R' * 1000000000 + rn) (hrn : rn = dval T) (hT : Dig T) (hD : Dig D) (h9 : R' ≠ 0 → T.length = 9) (h0 : R' = 0 → T = dec rn) (hRne : R ≠ 0) :
    n = R' * 10 ^ (T ++ D).length + dval (T ++ D) ∧ (R' = 0 → n ≠ 0 → T ++ D = dec n) ∧ (n = 0 → T ++ D = []) ∧ 0 < T.length ∧ Dig (T ++ D) ∧ D.length < 10 * nl n := by
  have hp : 0 < 10 ^ D.length := Nat.pow_pos (by omega)
  have hr1 : 1 * 10 ^ D.length ≤ R * 10 ^ D.length := Nat.mul_le_mul_right _ (by omega)
  refine ⟨?_, ?_, by intro e; omega, ?_, ?_, digits_most (by omega)⟩
  · by_cases h : R' = 0
    · subst h
      rw [hn, hR, dval_append, hrn]; simp
    · rw [hn, hR, dval_append, List.length_append, h9 h, hrn, Nat.pow_add]
      have : (10 : Nat) ^ 9 = 1000000000 := rfl
      rw [this]; grind
  · intro h _
    subst h
    have e : rn ≠ 0 := by omega
    rw [h0 rfl, hn, hR, Nat.zero_mul, Nat.zero_add, dec_below rn e D hD]
  · by_cases h : R' = 0
    · rw [h0 h]; exact List.length_pos_iff.2 (dec_ne _)
    · rw [h9 h]; omega
  · intro d hd
    rcases List.mem_append.1 hd with hd | hd
    · exact hT d hd
    · exact hD d hd

theorem digit_next {rn c j : Nat} {T : List Nat} (h : rn = c * 10 ^ j + dval T) (hl : T.length = j) : rn = c / 10 * 10 ^ (j + 1) + dval (c % 10 :: T) := by
  rw [dval_cons, hl, Nat.pow_succ, h]
  have := Nat.div_add_mod c 10
  generalize 10 ^ j = P at *
  have e : c * P = (10 * (c / 10) + c % 10) * P := by rw [this]
  rw [e]; grind
theorem digit_dec {rn c : Nat} {T : List Nat} (hc : c ≠ 0) (h : dec rn = dec c ++ T) : (c / 10 ≠ 0 ∧ dec rn = dec (c / 10) ++ (c % 10 :: T)) ∨ (c / 10 = 0 ∧ c % 10 :: T = dec rn) := by
  by_cases h10 : c < 10
  · right
    refine ⟨by omega, ?_⟩
    rw [h, dec_lt h10, show c % 10 = c by omega]; rfl
  · left
    refine ⟨by omega, ?_⟩
    rw [h, dec_ge h10]; simp

set_option maxHeartbeats 8000000 in
set_option maxRecDepth 20000 in
theorem refText_any {w : World} {a : Value} {n : Nat} (ha : Num w a n) (hn : nl n ≤ 100000) :
    Calls Tryd.prog 39 #[a] w fun e w' => e = .returned (.string (textOf n)) ∧ Fwd w w' := by
  go_enter Tryd.func39, Tryd.ntmps39
  go_wp2_with fail
  refine (refTrim_own ha (show nl n ≤ _ by omega)).mono ?_
  rintro e w1 ⟨x0, rfl, hx0, hf1⟩
  rw [val_lim] at hx0
  generalize hbase : w.heap.size = base at hx0
  have hbl : Below base w w1 := by rw [← hbase]; exact hf1
  have hbw : base ≤ w.heap.size := by omega
  have HBASE := hid hbase
  clear ha hf1 hbase
  have HX0 := hid hx0
  clear hx0
  go_wp2
  go_loopw [3, 4] (fun x s wr => ∃ (R : Nat) (D : List Nat), s = .string (strOf (asc D)) ∧ Own wr base x (lim R) ∧ nl R ≤ nl n ∧ Below base w wr ∧ Dig D ∧ n = R * 10 ^ D.length + dval D ∧ (R = 0 → n ≠ 0 → D = dec n) ∧ (n = 0 → D = []))
    (fun _ s _ => 10 * nl n + 10 - strLen s)
  case atStart => exact ⟨n, [], rfl, HX0.out, Nat.le_refl _, hbl, by intro d hd; simp at hd, by simp [dval], by intro h1 h2; exact absurd h1 h2, by intro _; rfl⟩
  case round =>
    obtain ⟨R, D, rfl, hown, hRn, hbr, hDig, hval, hfin, hzero⟩ := hrel
    obtain ⟨ao, cap, rfl, hc1, hc2, hc3⟩ := hown.parts
    have e0 : (lim R).length = nl R := rfl
    rw [e0] at hc1 hown ⊢
    unfold maxLen at hc2
    clear e0 hc3
    have H := hid (And.intro hown (And.intro hbr (And.intro hDig (And.intro hval (And.intro hfin hzero)))))
    clear hown hbr hDig hval hfin hzero
    by_cases hR : R = 0
    · have hR0 : nl R = 0 := by rw [hR, nl_zero]
      have HR := hid hR
      clear hR
      rw [hR0]
      by_cases h0 : n = 0
      · have hD : D = [] := H.out.2.2.2.2.2 h0
        subst hD
        have HT : Hid (textOf n = ⟨#[48]⟩) := hid (by rw [h0]; rfl)
        have hem : (strOf (asc [])).toList.isEmpty = true := by rw [ByteArray.toList_eq]; rfl
        clear h0
        go_wp2
        go_ret
        exact ⟨by rw [HT.out]; rfl, by have := H.out.2.1; rw [← HBASE.out] at this; exact this⟩
      · have hD : D = dec n := H.out.2.2.2.2.1 HR.out h0
        have hem : (strOf (asc D)).toList.isEmpty = false := by
          rw [ByteArray.toList_eq, strOf_list, hD]
          have := dec_ne n
          rcases hdn : dec n with _ | ⟨y, ys⟩
          · exact absurd hdn this
          · rfl
        have HT : Hid (strOf (asc D) = textOf n) := hid (by rw [hD]; rfl)
        clear hD h0
        go_wp2
        go_ret
        exact ⟨by rw [← HT.out]; rfl, by have := H.out.2.1; rw [← HBASE.out] at this; exact this⟩
    · have hpos : 0 < nl R := by rw [nl_pos hR]; omega
      have HR := hid hR
      clear hR
      obtain ⟨g, rfl, hg⟩ : ∃ g, ao = some ⟨g, 0, none⟩ ∧ base ≤ g := by
        obtain ⟨g, cap', e, hg, _, _⟩ := H.out.1.at (show 0 < nl R from hpos)
        injection e with e1 e2 e3
        exact ⟨g, e1, hg⟩
      have HG := hid hg
      clear hg
      go_wp2
      go_loopw [5, 6] (fun c i w2 => ∃ (k : Nat) (rn : Nat) (zs : List Nat), k ≤ nl R ∧ i = .int .i64 k ∧ c = .int .u64 rn ∧ rn < 1000000000 ∧ zs.length = nl R ∧ Own w2 base (.slice (some ⟨g, 0, none⟩) (nl R) cap) zs ∧ Below base w w2 ∧ zs.take k = (lim R).take k ∧
          val ((lim R).drop k) = val (zs.drop k) * 1000000000 + rn) (fun _ i _ => (intOf i).toNat)
      case atStart => exact ⟨nl R, 0, lim R, Nat.le_refl _, rfl, rfl, by omega, rfl, H.out.1, H.out.2.1, rfl, by rw [show nl R = (lim R).length from rfl]; simp [val]⟩
      case round =>
        obtain ⟨k, rn, zs, hk, rfl, rfl, hr, hzl, hbz, hon, htk, hval⟩ := hrel
        have H2 := hid (And.intro hzl (And.intro hbz (And.intro hon (And.intro htk hval))))
        clear hzl hbz hon htk hval
        cases k with
        | succ k =>
          have hlz : k < zs.length := by rw [H2.out.1]; omega
          obtain ⟨hzk, hfz⟩ := H2.out.2.1.cell k hlz
          have e0 : zs.getD k 0 = (lim R).getD k 0 := by
            have h1 := congrArg (fun l => l[k]?) H2.out.2.2.2.1
            simp only [List.getElem?_take] at h1
            rw [if_pos (by omega), if_pos (by omega)] at h1
            rw [List.getD_eq_getElem?_getD, List.getD_eq_getElem?_getD, h1]
          rw [e0] at hzk
          clear e0
          obtain ⟨x, hx⟩ : ∃ x, x = (lim R).getD k 0 := ⟨_, rfl⟩
          have hxb : x < 4294967296 := by rw [hx]; exact (ok_lim R).getD _
          rw [← hx] at hzk
          have HX := hid hx
          clear hx
          have HL := hid hlz
          clear hlz
          have hor0 := or_join rn x (by omega) hxb
          obtain ⟨y, hy⟩ : ∃ y, y = rn * 4294967296 + x := ⟨_, rfl⟩
          rw [← hy] at hor0
          have HY := hid hy
          have hyb : y < 1000000000 * 4294967296 := by rw [hy]; omega
          have hyb3 : (y : Int) ≤ 18446744073709551615 := by omega
          have hqi : (y : Int) / 1000000000 < 4294967296 := by omega
          have hqi0 : 0 ≤ (y : Int) / 1000000000 := by omega
          have HYB := hid hyb
          clear hy hyb
          go_wp2
          go_roundw
          case rel =>
            obtain ⟨q1, q2, q3, q4, q5⟩ := H2.out
            have hyb := HYB.out
            have hst := q2.set k (y / 1000000000) (by omega)
            rw [Int.natCast_ediv] at hst
            refine ⟨k, y % 1000000000, zs.set k (y / 1000000000), by omega, by go_num, by simp, by omega, by rw [set_len]; exact q1, hst, q3.setCell HG.out _, ?_, ?_⟩
            · rw [List.take_set_of_le (Nat.le_refl _)]
              have h1 := congrArg (List.take k) q4
              simpa [List.take_take] using h1
            · have e1 := val_drop_cons (xs := lim R) (k := k) (by show k < nl R; omega)
              have e2 := val_drop_cons (xs := zs.set k (y / 1000000000)) (k := k) (by rw [set_len]; exact HL.out)
              rw [e1, e2, ← HX.out, drop_set_succ, q5]
              rw [show (zs.set k (y / 1000000000)).getD k 0 = y / 1000000000 by simp [HL.out]]
              rw [HY.out]
              exact div_step rfl
          case measure => simp [intOf] <;> omega
        | zero =>
          have hz := H2.out.2.1.rd
          have hRe : R = val zs * 1000000000 + rn := by
            have h := H2.out.2.2.2.2
            simpa [val_lim] using h
          have hzn : nl (val zs) ≤ nl R := nl_mono (by omega)
          have HRE := hid hRe
          have hbs : base ≤ wr.heap.size := Nat.le_trans hbw H2.out.2.2.1.size
          have HZL := hid H2.out.1
          have HBW := hid H2.out.2.2.1
          clear hRe H2
          go_wp2_with fail
          refine (refTrim_own hz (by rw [HZL.out]; omega)).mono ?_
          rintro e w3 ⟨x1, rfl, hx1, hf3⟩
          have hb3 : Below base w w3 := HBW.out.trans (Below.mono hf3 hbs)
          have hx2 := hx1.lower hbs
          clear hx1 hz hf3 HBW HZL hbs
          generalize val zs = R' at *
          obtain ⟨ao1, cap1, rfl, hd1, hd2, _⟩ := hx2.parts
          have e0 : (lim R').length = nl R' := rfl
          rw [e0] at hd1 hx2 ⊢
          unfold maxLen at hd2
          clear e0
          have H3 := hid (And.intro hb3 hx2)
          clear hb3 hx2
          go_wp2
          go_loopw [5, 7, 8] (fun c t i w4 => ∃ (j c' : Nat) (T : List Nat), j ≤ 9 ∧ i = .int .i64 j ∧ c = .int .u64 c' ∧ c' < 1000000000 ∧ t = .string (strOf (asc T)) ∧ T.length = j ∧ Dig T ∧ rn = c' * 10 ^ j + dval T ∧
              (R' = 0 → (c' ≠ 0 ∧ dec rn = dec c' ++ T) ∨ (c' = 0 ∧ T = dec rn)) ∧ Below base w w4 ∧ Own w4 base (.slice ao1 (nl R') cap1) (lim R')) (fun _ _ i _ => 9 - (intOf i).toNat)
          case atStart =>
            refine ⟨0, rn, [], by omega, rfl, rfl, hr, rfl, rfl, by intro d hd; simp at hd, by simp [dval], ?_, H3.out.1, H3.out.2⟩
            intro h
            refine .inl ⟨?_, by simp⟩
            intro e
            have := HRE.out
            rw [h, e] at this
            exact HR.out this
          case round =>
            obtain ⟨j, c', T, hj, rfl, rfl, hc', rfl, hTl, hTd, hrv, hdz, hb4, hx4⟩ := hrel
            have H4 := hid (And.intro hTl (And.intro hTd (And.intro hrv (And.intro hdz (And.intro hb4 hx4)))))
            have hbs4 : base ≤ wr.heap.size := Nat.le_trans hbw hb4.size
            have hsT : (strOf (asc T)).size ≤ 9 := by rw [str_size (M := asc T) rfl]; simp [asc]; omega
            have hsD : (strOf (asc D)).size ≤ 1000000 := by
              obtain ⟨p1, p2, p3, p4, p5, p6⟩ := H.out
              have hp : 0 < 10 ^ D.length := Nat.pow_pos (by omega)
              have hr1 : 1 * 10 ^ D.length ≤ R * 10 ^ D.length := Nat.mul_le_mul_right _ (by have := HR.out; omega)
              have := digits_most (n := n) (k := D.length) (by omega)
              rw [str_size (M := asc D) rfl]; simp [asc]; omega
            have hs1 : (strOf [48 + c' % 10]).size ≤ 1 := by rw [str_size (M := [48 + c' % 10]) rfl]; simp
            have hs2 : (strOf [48]).size ≤ 1 := by rw [str_size (M := [48]) rfl]; simp
            clear hTl hTd hrv hdz hb4 hx4
            by_cases hj9 : j = 9
            · have hc0 : c' = 0 := by
                have h := H4.out.2.2.1
                rw [hj9] at h
                have h10 : (10 : Nat) ^ 9 = 1000000000 := rfl
                rw [h10] at h
                omega
              have HC0 := hid hc0
              have HJ9 := hid hj9
              have hjge : 9 ≤ j := by omega
              clear hc0 hj9
              go_wp2
              go_roundw
              case rel =>
                obtain ⟨q1, q2, q3, q4, q5, q6⟩ := H4.out
                obtain ⟨p1, p2, p3, p4, p5, p6⟩ := H.out
                have hN := text_next p4 HRE.out (by rw [q3, HC0.out]; simp) q2 p3 (fun _ => by rw [q1]; exact HJ9.out) (fun h => by rcases q4 h with ⟨h1, _⟩ | ⟨_, h2⟩; exact absurd HC0.out h1; exact h2) HR.out
                exact ⟨R', T ++ D, by rw [strOf_app], q6, Nat.le_trans hzn hRn, q5, hN.2.2.2.2.1, hN.1, hN.2.1, hN.2.2.1⟩
              case measure =>
                obtain ⟨q1, q2, q3, q4, q5, q6⟩ := H4.out
                obtain ⟨p1, p2, p3, p4, p5, p6⟩ := H.out
                have hN := text_next p4 HRE.out (by rw [q3, HC0.out]; simp) q2 p3 (fun _ => by rw [q1]; exact HJ9.out) (fun h => by rcases q4 h with ⟨h1, _⟩ | ⟨_, h2⟩; exact absurd HC0.out h1; exact h2) HR.out
                have s1 : (strOf (asc T) ++ strOf (asc D)).size = T.length + D.length := by rw [strOf_app, str_size (M := asc (T ++ D)) rfl]; simp [asc]
                have s2 : (strOf (asc D)).size = D.length := by rw [str_size (M := asc D) rfl]; simp [asc]
                show 10 * nl n + 10 - (strOf (asc T) ++ strOf (asc D)).size < 10 * nl n + 10 - (strOf (asc D)).size
                rw [s1, s2]
                have h4 := hN.2.2.2.1
                have h6 := hN.2.2.2.2.2
                omega
            · have hjlt : j < 9 := by omega
              clear hj9
              by_cases hc0 : c' = 0
              · by_cases hR' : R' = 0
                · have hnl0 : nl R' = 0 := by rw [hR', nl_zero]
                  have HC0 := hid hc0
                  have HR' := hid hR'
                  have hc1 : (c' : Int) ≤ 0 := by omega
                  have hnl1 : nl R' ≤ 0 := by omega
                  clear hc0 hR' hnl0
                  go_wp2
                  go_roundw
                  case rel =>
                    obtain ⟨q1, q2, q3, q4, q5, q6⟩ := H4.out
                    obtain ⟨p1, p2, p3, p4, p5, p6⟩ := H.out
                    have hN := text_next p4 HRE.out (by rw [q3, HC0.out]; simp) q2 p3 (fun h => absurd HR'.out h) (fun h => by rcases q4 h with ⟨h1, _⟩ | ⟨_, h2⟩; exact absurd HC0.out h1; exact h2) HR.out
                    exact ⟨R', T ++ D, by rw [strOf_app], q6, Nat.le_trans hzn hRn, q5, hN.2.2.2.2.1, hN.1, hN.2.1, hN.2.2.1⟩
                  case measure =>
                    obtain ⟨q1, q2, q3, q4, q5, q6⟩ := H4.out
                    obtain ⟨p1, p2, p3, p4, p5, p6⟩ := H.out
                    have hN := text_next p4 HRE.out (by rw [q3, HC0.out]; simp) q2 p3 (fun h => absurd HR'.out h) (fun h => by rcases q4 h with ⟨h1, _⟩ | ⟨_, h2⟩; exact absurd HC0.out h1; exact h2) HR.out
                    have s1 : (strOf (asc T) ++ strOf (asc D)).size = T.length + D.length := by rw [strOf_app, str_size (M := asc (T ++ D)) rfl]; simp [asc]
                    have s2 : (strOf (asc D)).size = D.length := by rw [str_size (M := asc D) rfl]; simp [asc]
                    show 10 * nl n + 10 - (strOf (asc T) ++ strOf (asc D)).size < 10 * nl n + 10 - (strOf (asc D)).size
                    rw [s1, s2]
                    have h4 := hN.2.2.2.1
                    have h6 := hN.2.2.2.2.2
                    omega
                · have hnl1 : 0 < nl R' := by rw [nl_pos hR']; omega
                  have HR' := hid hR'
                  subst hc0
                  clear hR'
                  have hcv : (convert 49 9 (.slice (some ⟨wr.heap.size, 0, none⟩) 1 1)).run Tryd.prog (wr.alloc (.cells #[.int .u8 48] 5)) = .ok (.string (strOf [48])) (wr.alloc (.cells #[.int .u8 48] 5)) :=
                    toStr _ (pre := []) (xs := [48]) (post := []) (BlkB.one wr 48 (by omega) _ rfl) rfl rfl
                  go_wp2
                  go_roundw
                  case rel =>
                    obtain ⟨q1, q2, q3, q4, q5, q6⟩ := H4.out
                    refine ⟨j + 1, 0, 0 :: T, by omega, by go_num, rfl, by omega, by rw [← strOf_cons 0 T], by simp [q1], ?_, by simpa using digit_next q3 q1, ?_, Below.alloc q5 hbs4 _, q6.alloc _⟩
                    · intro d hd
                      rcases List.mem_cons.1 hd with rfl | hd
                      · omega
                      · exact q2 d hd
                    · intro h
                      exact absurd h HR'.out
                  case measure => simp [intOf] <;> omega
              · have HC0 := hid hc0
                have hc1 : 0 < c' := by omega
                clear hc0
                have hcv : (convert 49 9 (.slice (some ⟨wr.heap.size, 0, none⟩) 1 1)).run Tryd.prog (wr.alloc (.cells #[.int .u8 (48 + (c' : Int) % 10)] 5)) = .ok (.string (strOf [48 + c' % 10])) (wr.alloc (.cells #[.int .u8 (48 + (c' : Int) % 10)] 5)) :=
                  toStr _ (pre := []) (xs := [48 + c' % 10]) (post := []) (BlkB.one wr _ (by omega) _ (by omega)) rfl rfl
                go_wp2
                go_roundw
                case rel =>
                  obtain ⟨q1, q2, q3, q4, q5, q6⟩ := H4.out
                  refine ⟨j + 1, c' / 10, c' % 10 :: T, by omega, by go_num, by go_num, by omega, by rw [strOf_cons], by simp [q1], ?_, digit_next q3 q1, ?_, Below.alloc q5 hbs4 _, q6.alloc _⟩
                  · intro d hd
                    rcases List.mem_cons.1 hd with rfl | hd
                    · omega
                    · exact q2 d hd
                  · intro h
                    rcases q4 h with ⟨_, h2⟩ | ⟨h1, _⟩
                    · exact digit_dec HC0.out h2
                    · exact absurd h1 HC0.out
                case measure => simp [intOf] <;> omega

end Go.Proofs.YthaclmceppelbaaDoor
