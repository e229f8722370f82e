/- NatKnown: these answers are just these: the law's walk. -/
import Derived.Test.YtbkphjmhmfgpgabDoorD9
import Derived.Test.YtbkphjmhmfgpgabDoorG8
import Derived.Test.YtbkphjmhmfgpgabDoorT2
namespace Go.Proofs.YtbkphjmhmfgpgabDoor
open Go.RowKit
set_option linter.unusedVariables false

theorem nlb (n M : Nat) (hM : 4 ≤ M) (h : n < 340282366920938463463374607431768211456) : nl n ≤ M := Nat.le_trans ((nl_le_iff n 4).2 h) hM
theorem num_lit2 (w : World) (g : Nat) (L : List Nat) (n : Nat) (h : L = lim n) (c : Nat) (hc : c = L.length) (hs : c ≤ 1000) (hg : g = w.heap.size) (o : Array Value) (ho : o = (cellsOf L).toArray) : Num (w.alloc (.cells o 33)) (.slice (some ⟨g, 0, none⟩) c c) n := by
  subst hg
  exact num_lit w L n h c hc hs o ho
theorem arg_lit (w : World) (g : Nat) (L : List Nat) (h : ∀ x ∈ L, x < 4294967296) (c : Nat) (hc : c = L.length) (hs : c ≤ 1000) (hg : g = w.heap.size) (o : Array Value) (ho : o = (cellsOf L).toArray) : Arg (w.alloc (.cells o 33)) (.slice (some ⟨g, 0, none⟩) c c) L := by
  subst hg hc
  exact .inl (Blk.rdAll (Blk.lit w L h o ho) L.length (Nat.le_refl _) (le_maxLen (by omega)))
theorem parse_yes (w : World) (L : List Nat) (n : Nat) {s : ByteArray} (hs : s = strOf L) (hb : ∀ x ∈ L, x < 256) (hl : L.length ≤ 400) (hn : isNum L = true) (hv : tval L = n) :
    Calls Tryd.prog 19 #[.string s] w fun e w' => ∃ v, e = .returned (.tuple #[v, .int .i64 0]) ∧ Num w' v n ∧ Fwd w w' := by
  subst hs
  refine (parse_any w L hb (by omega)).mono ?_
  rintro e w1 ⟨v, hf, h | h | h⟩
  · omega
  · rw [hn] at h; cases h.2.1
  · exact ⟨v, h.2.2.1, by rw [← hv]; exact h.2.2.2, hf⟩
theorem parse_no (w : World) (L : List Nat) {s : ByteArray} (hs : s = strOf L) (hb : ∀ x ∈ L, x < 256) (hl : L.length ≤ 400) (hn : isNum L = false) :
    Calls Tryd.prog 19 #[.string s] w fun e w' => ∃ v, e = .returned (.tuple #[v, .int .i64 4]) ∧ Num w' v 0 ∧ Fwd w w' := by
  subst hs
  refine (parse_any w L hb (by omega)).mono ?_
  rintro e w1 ⟨v, hf, h | h | h⟩
  · omega
  · exact ⟨v, h.2.2.1, h.2.2.2, hf⟩
  · rw [hn] at h; cases h.2.1

set_option maxHeartbeats 32000000 in
set_option maxRecDepth 20000 in
theorem natKnown_walk {w : World} {which : Int} (hw : (Lit.int .i64 which).wf = true) :
    Calls Tryd.prog 4 #[.int .i64 which] w fun e w' => e = .returned (.bool true) ∧ Below w.heap.size w w' := by
  obtain ⟨hw1, hw2⟩ := bounds_i64 hw
  clear hw
  go_enter Tryd.func4, Tryd.ntmps4
  go_wp2_with fail
  refine (known_any _).mono ?_
  rintro e w1 ⟨rfl, hf1⟩
  have hF := hf1
  have hbig := num_lit2 w1 (w1.heap.size) [0, 0, 1] 18446744073709551616 (by decide +kernel) 3 rfl (by omega) (by simp) #[.int .u32 0, .int .u32 0, .int .u32 1] rfl
  have hfl := (Fwd.refl w1).alloc (.cells #[.int .u32 0, .int .u32 0, .int .u32 1] 33)
  replace hF := hF.trans hfl
  clear hfl
  have l1 := num_lit2 (w1.alloc (.cells #[.int .u32 0, .int .u32 0, .int .u32 1] 33)) (w1.heap.size + 1) [5, 0, 7] 129127208515966861317 (by decide +kernel) 3 rfl (by omega) (by simp) #[.int .u32 5, .int .u32 0, .int .u32 7] rfl
  have hfl := (Fwd.refl (w1.alloc (.cells #[.int .u32 0, .int .u32 0, .int .u32 1] 33))).alloc (.cells #[.int .u32 5, .int .u32 0, .int .u32 7] 33)
  replace hbig := hbig.fwd hfl
  replace hF := hF.trans hfl
  clear hfl
  have l2 := num_lit2 ((w1.alloc (.cells #[.int .u32 0, .int .u32 0, .int .u32 1] 33)).alloc (.cells #[.int .u32 5, .int .u32 0, .int .u32 7] 33)) (w1.heap.size + 1 + 1) [0, 2] 8589934592 (by decide +kernel) 2 rfl (by omega) (by simp) #[.int .u32 0, .int .u32 2] rfl
  have hfl := (Fwd.refl ((w1.alloc (.cells #[.int .u32 0, .int .u32 0, .int .u32 1] 33)).alloc (.cells #[.int .u32 5, .int .u32 0, .int .u32 7] 33))).alloc (.cells #[.int .u32 0, .int .u32 2] 33)
  replace hbig := hbig.fwd hfl
  replace l1 := l1.fwd hfl
  replace hF := hF.trans hfl
  clear hfl
  go_wp2_with fail
  refine (div_any l1 l2 (nlb _ _ (by omega) (by decide)) (nlb _ _ (by omega) (by decide)) (by decide)).mono ?_
  rintro e w2 ⟨vq, vr, rfl, hq, hr, hf2⟩
  replace hbig := hbig.fwd hf2
  replace l1 := l1.fwd hf2
  replace l2 := l2.fwd hf2
  replace hF := hF.trans hf2
  clear hf2
  rw [show 129127208515966861317 / 8589934592 = 15032385536 from by decide] at hq
  rw [show 129127208515966861317 % 8589934592 = 5 from by decide] at hr
  clear l1 l2
  have l1 := num_lit2 w2 (w2.heap.size) [3] 3 (by decide +kernel) 1 rfl (by omega) (by simp) #[.int .u32 3] rfl
  have hfl := (Fwd.refl w2).alloc (.cells #[.int .u32 3] 33)
  replace hbig := hbig.fwd hfl
  replace hq := hq.fwd hfl
  replace hr := hr.fwd hfl
  replace hF := hF.trans hfl
  clear hfl
  go_wp2_with fail
  refine (div_any hbig l1 (nlb _ _ (by omega) (by decide)) (nlb _ _ (by omega) (by decide)) (by decide)).mono ?_
  rintro e w3 ⟨vp, vs, rfl, hp, hs, hf3⟩
  replace hbig := hbig.fwd hf3
  replace hq := hq.fwd hf3
  replace hr := hr.fwd hf3
  replace l1 := l1.fwd hf3
  replace hF := hF.trans hf3
  clear hf3
  rw [show 18446744073709551616 / 3 = 6148914691236517205 from by decide] at hp
  rw [show 18446744073709551616 % 3 = 1 from by decide] at hs
  clear l1
  go_wp2_with fail
  refine (div_zero hbig (num_nil _)).mono ?_
  rintro e w4 ⟨rfl, hf4⟩
  replace hbig := hbig.fwd hf4
  replace hq := hq.fwd hf4
  replace hr := hr.fwd hf4
  replace hp := hp.fwd hf4
  replace hs := hs.fwd hf4
  replace hF := hF.trans hf4
  clear hf4
  have l1 := num_lit2 w4 (w4.heap.size) [1] 1 (by decide +kernel) 1 rfl (by omega) (by simp) #[.int .u32 1] rfl
  have hfl := (Fwd.refl w4).alloc (.cells #[.int .u32 1] 33)
  replace hbig := hbig.fwd hfl
  replace hq := hq.fwd hfl
  replace hr := hr.fwd hfl
  replace hp := hp.fwd hfl
  replace hs := hs.fwd hfl
  replace hF := hF.trans hfl
  clear hfl
  go_wp2_with fail
  refine (sub_more hbig l1 (nlb _ _ (by omega) (by decide)) (nlb _ _ (by omega) (by decide)) (by decide)).mono ?_
  rintro e w5 ⟨vd, rfl, hd, hf5⟩
  replace hbig := hbig.fwd hf5
  replace hq := hq.fwd hf5
  replace hr := hr.fwd hf5
  replace hp := hp.fwd hf5
  replace hs := hs.fwd hf5
  replace l1 := l1.fwd hf5
  replace hF := hF.trans hf5
  clear hf5
  rw [show 18446744073709551616 - 1 = 18446744073709551615 from by decide] at hd
  clear l1
  have l1 := num_lit2 w5 (w5.heap.size) [1] 1 (by decide +kernel) 1 rfl (by omega) (by simp) #[.int .u32 1] rfl
  have hfl := (Fwd.refl w5).alloc (.cells #[.int .u32 1] 33)
  replace hbig := hbig.fwd hfl
  replace hq := hq.fwd hfl
  replace hr := hr.fwd hfl
  replace hp := hp.fwd hfl
  replace hs := hs.fwd hfl
  replace hd := hd.fwd hfl
  replace hF := hF.trans hfl
  clear hfl
  go_wp2_with fail
  refine (sub_less l1 hbig (nlb _ _ (by omega) (by decide)) (nlb _ _ (by omega) (by decide)) (by decide)).mono ?_
  rintro e w6 ⟨rfl, hf6⟩
  replace hbig := hbig.fwd hf6
  replace hq := hq.fwd hf6
  replace hr := hr.fwd hf6
  replace hp := hp.fwd hf6
  replace hs := hs.fwd hf6
  replace hd := hd.fwd hf6
  replace l1 := l1.fwd hf6
  replace hF := hF.trans hf6
  clear hf6
  clear l1
  go_wp2_with fail
  refine (parse_yes _ [49, 56, 52, 52, 54, 55, 52, 52, 48, 55, 51, 55, 48, 57, 53, 53, 49, 54, 49, 54] 18446744073709551616 rfl (by decide) (by decide) (by decide +kernel) (by decide +kernel)).mono ?_
  rintro e w7 ⟨vx, rfl, hx, hf7⟩
  replace hbig := hbig.fwd hf7
  replace hq := hq.fwd hf7
  replace hr := hr.fwd hf7
  replace hp := hp.fwd hf7
  replace hs := hs.fwd hf7
  replace hd := hd.fwd hf7
  replace hF := hF.trans hf7
  clear hf7
  go_wp2_with fail
  refine (parse_no _ [48, 49] rfl (by decide) (by decide) (by decide +kernel)).mono ?_
  rintro e w8 ⟨vj, rfl, hj, hf8⟩
  clear hj
  replace hbig := hbig.fwd hf8
  replace hq := hq.fwd hf8
  replace hr := hr.fwd hf8
  replace hp := hp.fwd hf8
  replace hs := hs.fwd hf8
  replace hd := hd.fwd hf8
  replace hx := hx.fwd hf8
  replace hF := hF.trans hf8
  clear hf8
  go_wp2_with fail
  refine (parse_yes _ [48] 0 rfl (by decide) (by decide) (by decide +kernel) (by decide +kernel)).mono ?_
  rintro e w9 ⟨vy, rfl, hy, hf9⟩
  replace hbig := hbig.fwd hf9
  replace hq := hq.fwd hf9
  replace hr := hr.fwd hf9
  replace hp := hp.fwd hf9
  replace hs := hs.fwd hf9
  replace hd := hd.fwd hf9
  replace hx := hx.fwd hf9
  replace hF := hF.trans hf9
  clear hf9
  go_wp2_with fail
  refine (small_any hbig (nlb _ _ (by omega) (by decide))).mono ?_
  rintro e w10 ⟨rfl, hf10⟩
  rw [show smallV 18446744073709551616 = .tuple #[.int .u64 0, .bool false] from by unfold smallV; rw [if_neg (by decide)]]
  replace hbig := hbig.fwd hf10
  replace hq := hq.fwd hf10
  replace hr := hr.fwd hf10
  replace hp := hp.fwd hf10
  replace hs := hs.fwd hf10
  replace hd := hd.fwd hf10
  replace hx := hx.fwd hf10
  replace hy := hy.fwd hf10
  replace hF := hF.trans hf10
  clear hf10
  have l1 := num_lit2 w10 (w10.heap.size) [1, 1] 4294967297 (by decide +kernel) 2 rfl (by omega) (by simp) #[.int .u32 1, .int .u32 1] rfl
  have hfl := (Fwd.refl w10).alloc (.cells #[.int .u32 1, .int .u32 1] 33)
  replace hbig := hbig.fwd hfl
  replace hq := hq.fwd hfl
  replace hr := hr.fwd hfl
  replace hp := hp.fwd hfl
  replace hs := hs.fwd hfl
  replace hd := hd.fwd hfl
  replace hx := hx.fwd hfl
  replace hy := hy.fwd hfl
  replace hF := hF.trans hfl
  clear hfl
  go_wp2_with fail
  refine (small_any l1 (nlb _ _ (by omega) (by decide))).mono ?_
  rintro e w11 ⟨rfl, hf11⟩
  rw [show smallV 4294967297 = .tuple #[.int .u64 4294967297, .bool true] from by unfold smallV; rw [if_pos (by decide)]; rfl]
  replace hbig := hbig.fwd hf11
  replace hq := hq.fwd hf11
  replace hr := hr.fwd hf11
  replace hp := hp.fwd hf11
  replace hs := hs.fwd hf11
  replace hd := hd.fwd hf11
  replace hx := hx.fwd hf11
  replace hy := hy.fwd hf11
  replace l1 := l1.fwd hf11
  replace hF := hF.trans hf11
  clear hf11
  clear l1
  have l1 := num_lit2 w11 (w11.heap.size) [2147483648, 3] 15032385536 (by decide +kernel) 2 rfl (by omega) (by simp) #[.int .u32 2147483648, .int .u32 3] rfl
  have hfl := (Fwd.refl w11).alloc (.cells #[.int .u32 2147483648, .int .u32 3] 33)
  replace hbig := hbig.fwd hfl
  replace hq := hq.fwd hfl
  replace hr := hr.fwd hfl
  replace hp := hp.fwd hfl
  replace hs := hs.fwd hfl
  replace hd := hd.fwd hfl
  replace hx := hx.fwd hfl
  replace hy := hy.fwd hfl
  replace hF := hF.trans hfl
  clear hfl
  go_wp2_with fail
  refine (same_true hq l1 (nlb _ _ (by omega) (by decide)) (nlb _ _ (by omega) (by decide)) (by decide)).mono ?_
  rintro e w12 ⟨rfl, hf12⟩
  replace hbig := hbig.fwd hf12
  replace hq := hq.fwd hf12
  replace hr := hr.fwd hf12
  replace hp := hp.fwd hf12
  replace hs := hs.fwd hf12
  replace hd := hd.fwd hf12
  replace hx := hx.fwd hf12
  replace hy := hy.fwd hf12
  replace l1 := l1.fwd hf12
  replace hF := hF.trans hf12
  clear hf12
  clear hq l1
  have l1 := num_lit2 w12 (w12.heap.size) [5] 5 (by decide +kernel) 1 rfl (by omega) (by simp) #[.int .u32 5] rfl
  have hfl := (Fwd.refl w12).alloc (.cells #[.int .u32 5] 33)
  replace hbig := hbig.fwd hfl
  replace hr := hr.fwd hfl
  replace hp := hp.fwd hfl
  replace hs := hs.fwd hfl
  replace hd := hd.fwd hfl
  replace hx := hx.fwd hfl
  replace hy := hy.fwd hfl
  replace hF := hF.trans hfl
  clear hfl
  go_wp2_with fail
  refine (same_true hr l1 (nlb _ _ (by omega) (by decide)) (nlb _ _ (by omega) (by decide)) (by decide)).mono ?_
  rintro e w13 ⟨rfl, hf13⟩
  replace hbig := hbig.fwd hf13
  replace hr := hr.fwd hf13
  replace hp := hp.fwd hf13
  replace hs := hs.fwd hf13
  replace hd := hd.fwd hf13
  replace hx := hx.fwd hf13
  replace hy := hy.fwd hf13
  replace l1 := l1.fwd hf13
  replace hF := hF.trans hf13
  clear hf13
  clear hr l1
  have l1 := num_lit2 w13 (w13.heap.size) [1431655765, 1431655765] 6148914691236517205 (by decide +kernel) 2 rfl (by omega) (by simp) #[.int .u32 1431655765, .int .u32 1431655765] rfl
  have hfl := (Fwd.refl w13).alloc (.cells #[.int .u32 1431655765, .int .u32 1431655765] 33)
  replace hbig := hbig.fwd hfl
  replace hp := hp.fwd hfl
  replace hs := hs.fwd hfl
  replace hd := hd.fwd hfl
  replace hx := hx.fwd hfl
  replace hy := hy.fwd hfl
  replace hF := hF.trans hfl
  clear hfl
  go_wp2_with fail
  refine (same_true hp l1 (nlb _ _ (by omega) (by decide)) (nlb _ _ (by omega) (by decide)) (by decide)).mono ?_
  rintro e w14 ⟨rfl, hf14⟩
  replace hbig := hbig.fwd hf14
  replace hp := hp.fwd hf14
  replace hs := hs.fwd hf14
  replace hd := hd.fwd hf14
  replace hx := hx.fwd hf14
  replace hy := hy.fwd hf14
  replace l1 := l1.fwd hf14
  replace hF := hF.trans hf14
  clear hf14
  clear hp l1
  have l1 := num_lit2 w14 (w14.heap.size) [1] 1 (by decide +kernel) 1 rfl (by omega) (by simp) #[.int .u32 1] rfl
  have hfl := (Fwd.refl w14).alloc (.cells #[.int .u32 1] 33)
  replace hbig := hbig.fwd hfl
  replace hs := hs.fwd hfl
  replace hd := hd.fwd hfl
  replace hx := hx.fwd hfl
  replace hy := hy.fwd hfl
  replace hF := hF.trans hfl
  clear hfl
  go_wp2_with fail
  refine (same_true hs l1 (nlb _ _ (by omega) (by decide)) (nlb _ _ (by omega) (by decide)) (by decide)).mono ?_
  rintro e w15 ⟨rfl, hf15⟩
  replace hbig := hbig.fwd hf15
  replace hs := hs.fwd hf15
  replace hd := hd.fwd hf15
  replace hx := hx.fwd hf15
  replace hy := hy.fwd hf15
  replace l1 := l1.fwd hf15
  replace hF := hF.trans hf15
  clear hf15
  clear hs l1
  have l1 := num_lit2 w15 (w15.heap.size) [4294967295, 4294967295] 18446744073709551615 (by decide +kernel) 2 rfl (by omega) (by simp) #[.int .u32 4294967295, .int .u32 4294967295] rfl
  have hfl := (Fwd.refl w15).alloc (.cells #[.int .u32 4294967295, .int .u32 4294967295] 33)
  replace hbig := hbig.fwd hfl
  replace hd := hd.fwd hfl
  replace hx := hx.fwd hfl
  replace hy := hy.fwd hfl
  replace hF := hF.trans hfl
  clear hfl
  go_wp2_with fail
  refine (same_true hd l1 (nlb _ _ (by omega) (by decide)) (nlb _ _ (by omega) (by decide)) (by decide)).mono ?_
  rintro e w16 ⟨rfl, hf16⟩
  replace hbig := hbig.fwd hf16
  replace hd := hd.fwd hf16
  replace hx := hx.fwd hf16
  replace hy := hy.fwd hf16
  replace l1 := l1.fwd hf16
  replace hF := hF.trans hf16
  clear hf16
  clear hd l1
  go_wp2_with fail
  refine (same_true hx hbig (nlb _ _ (by omega) (by decide)) (nlb _ _ (by omega) (by decide)) (by decide)).mono ?_
  rintro e w17 ⟨rfl, hf17⟩
  replace hbig := hbig.fwd hf17
  replace hx := hx.fwd hf17
  replace hy := hy.fwd hf17
  replace hF := hF.trans hf17
  clear hf17
  clear hx
  go_wp2_with fail
  refine (text_any hbig (nlb _ _ (by omega) (by decide))).mono ?_
  rintro e w18 ⟨rfl, hf18⟩
  rw [show textOf 18446744073709551616 = ⟨#[49, 56, 52, 52, 54, 55, 52, 52, 48, 55, 51, 55, 48, 57, 53, 53, 49, 54, 49, 54]⟩ from by kernel_rfl]
  replace hbig := hbig.fwd hf18
  replace hy := hy.fwd hf18
  replace hF := hF.trans hf18
  clear hf18
  obtain ⟨yo, yc, rfl, hyc, hym, hycell⟩ := hy.parts
  unfold maxLen at hym
  have hz0 : nl 0 = 0 := nl_zero
  rw [hz0]
  clear hycell hy hyc hym
  go_wp2_with fail
  refine (bits_any hbig (nlb _ _ (by omega) (by decide))).mono ?_
  rintro e w19 ⟨rfl, hf19⟩
  rw [show blen 18446744073709551616 = 65 from by decide +kernel]
  replace hbig := hbig.fwd hf19
  replace hF := hF.trans hf19
  clear hf19
  go_wp2_with fail
  refine (bits_any (num_nil _) (by rw [nl_zero]; omega)).mono ?_
  rintro e w20 ⟨rfl, hf20⟩
  rw [show blen 0 = 0 from rfl]
  replace hbig := hbig.fwd hf20
  replace hF := hF.trans hf20
  clear hf20
  have l1 := num_lit2 w20 (w20.heap.size) [1] 1 (by decide +kernel) 1 rfl (by omega) (by simp) #[.int .u32 1] rfl
  have hfl := (Fwd.refl w20).alloc (.cells #[.int .u32 1] 33)
  replace hbig := hbig.fwd hfl
  replace hF := hF.trans hfl
  clear hfl
  go_wp2_with fail
  refine (bits_any l1 (nlb _ _ (by omega) (by decide))).mono ?_
  rintro e w21 ⟨rfl, hf21⟩
  rw [show blen 1 = 1 from by decide +kernel]
  replace hbig := hbig.fwd hf21
  replace l1 := l1.fwd hf21
  replace hF := hF.trans hf21
  clear hf21
  clear l1
  have l1 := arg_lit w21 (w21.heap.size) [1, 0] (by decide) 2 rfl (by omega) (by simp) #[.int .u32 1, .int .u32 0] rfl
  have hfl := (Fwd.refl w21).alloc (.cells #[.int .u32 1, .int .u32 0] 33)
  replace hbig := hbig.fwd hfl
  replace hF := hF.trans hfl
  clear hfl
  go_wp2_with fail
  refine (right_any l1).mono ?_
  rintro e wz ⟨rfl, rfl⟩
  rw [show rightB [1, 0] = false from by decide]
  clear l1
  go_wp2_with fail
  refine (right_any (.inl (Rd.nil _))).mono ?_
  rintro e wz ⟨rfl, rfl⟩
  rw [show rightB [] = true from by decide]
  have l1 := arg_lit (w21.alloc (.cells #[.int .u32 1, .int .u32 0] 33)) (w21.heap.size + 1) [0, 1] (by decide) 2 rfl (by omega) (by simp) #[.int .u32 0, .int .u32 1] rfl
  have hfl := (Fwd.refl (w21.alloc (.cells #[.int .u32 1, .int .u32 0] 33))).alloc (.cells #[.int .u32 0, .int .u32 1] 33)
  replace hbig := hbig.fwd hfl
  replace hF := hF.trans hfl
  clear hfl
  go_wp2_with fail
  refine (right_any l1).mono ?_
  rintro e wz ⟨rfl, rfl⟩
  rw [show rightB [0, 1] = true from by decide]
  clear l1
  have l1 := num_lit2 ((w21.alloc (.cells #[.int .u32 1, .int .u32 0] 33)).alloc (.cells #[.int .u32 0, .int .u32 1] 33)) (w21.heap.size + 1 + 1) [3] 3 (by decide +kernel) 1 rfl (by omega) (by simp) #[.int .u32 3] rfl
  have hfl := (Fwd.refl ((w21.alloc (.cells #[.int .u32 1, .int .u32 0] 33)).alloc (.cells #[.int .u32 0, .int .u32 1] 33))).alloc (.cells #[.int .u32 3] 33)
  replace hbig := hbig.fwd hfl
  replace hF := hF.trans hfl
  clear hfl
  go_wp2_with fail
  refine (shl_any 31 l1 (nlb _ _ (by omega) (by decide)) (by omega)).mono ?_
  rintro e w22 ⟨v1, rfl, h1, hf22⟩
  replace hbig := hbig.fwd hf22
  replace l1 := l1.fwd hf22
  replace hF := hF.trans hf22
  clear hf22
  clear l1
  have l1 := num_lit2 w22 (w22.heap.size) [2147483648, 1] 6442450944 (by decide +kernel) 2 rfl (by omega) (by simp) #[.int .u32 2147483648, .int .u32 1] rfl
  have hfl := (Fwd.refl w22).alloc (.cells #[.int .u32 2147483648, .int .u32 1] 33)
  replace hbig := hbig.fwd hfl
  replace h1 := h1.fwd hfl
  replace hF := hF.trans hfl
  clear hfl
  go_wp2_with fail
  refine (same_true h1 l1 (nlb _ _ (by omega) (by decide)) (nlb _ _ (by omega) (by decide)) (by decide)).mono ?_
  rintro e w23 ⟨rfl, hf23⟩
  replace hbig := hbig.fwd hf23
  replace h1 := h1.fwd hf23
  replace l1 := l1.fwd hf23
  replace hF := hF.trans hf23
  clear hf23
  clear h1 l1
  go_wp2_with fail
  refine (shr_any 63 hbig (nlb _ _ (by omega) (by decide)) (by omega)).mono ?_
  rintro e w24 ⟨v1, rfl, h1, hf24⟩
  replace hbig := hbig.fwd hf24
  replace hF := hF.trans hf24
  clear hf24
  have l1 := num_lit2 w24 (w24.heap.size) [2] 2 (by decide +kernel) 1 rfl (by omega) (by simp) #[.int .u32 2] rfl
  have hfl := (Fwd.refl w24).alloc (.cells #[.int .u32 2] 33)
  replace hbig := hbig.fwd hfl
  replace h1 := h1.fwd hfl
  replace hF := hF.trans hfl
  clear hfl
  go_wp2_with fail
  refine (same_true h1 l1 (nlb _ _ (by omega) (by decide)) (nlb _ _ (by omega) (by decide)) (by decide)).mono ?_
  rintro e w25 ⟨rfl, hf25⟩
  replace hbig := hbig.fwd hf25
  replace h1 := h1.fwd hf25
  replace l1 := l1.fwd hf25
  replace hF := hF.trans hf25
  clear hf25
  clear h1 l1
  go_wp2_with fail
  refine (shr_any 65 hbig (nlb _ _ (by omega) (by decide)) (by omega)).mono ?_
  rintro e w26 ⟨v1, rfl, h1, hf26⟩
  replace hbig := hbig.fwd hf26
  replace hF := hF.trans hf26
  clear hf26
  rw [show 18446744073709551616 / 2 ^ 65 = 0 from by decide] at h1
  obtain ⟨yo1, yc1, rfl, hyc, hym, hycell⟩ := h1.parts
  unfold maxLen at hym
  rw [hz0]
  clear hycell h1 hyc hym
  have l1 := num_lit2 w26 (w26.heap.size) [12] 12 (by decide +kernel) 1 rfl (by omega) (by simp) #[.int .u32 12] rfl
  have hfl := (Fwd.refl w26).alloc (.cells #[.int .u32 12] 33)
  replace hbig := hbig.fwd hfl
  replace hF := hF.trans hfl
  clear hfl
  have l2 := num_lit2 (w26.alloc (.cells #[.int .u32 12] 33)) (w26.heap.size + 1) [18] 18 (by decide +kernel) 1 rfl (by omega) (by simp) #[.int .u32 18] rfl
  have hfl := (Fwd.refl (w26.alloc (.cells #[.int .u32 12] 33))).alloc (.cells #[.int .u32 18] 33)
  replace hbig := hbig.fwd hfl
  replace l1 := l1.fwd hfl
  replace hF := hF.trans hfl
  clear hfl
  go_wp2_with fail
  refine (gcd_any l1 l2 (nlb _ _ (by omega) (by decide)) (nlb _ _ (by omega) (by decide))).mono ?_
  rintro e w27 ⟨v1, rfl, h1, hf27⟩
  replace hbig := hbig.fwd hf27
  replace l1 := l1.fwd hf27
  replace l2 := l2.fwd hf27
  replace hF := hF.trans hf27
  clear hf27
  clear l1 l2
  rw [show Nat.gcd 12 18 = 6 from by decide +kernel] at h1
  have l1 := num_lit2 w27 (w27.heap.size) [6] 6 (by decide +kernel) 1 rfl (by omega) (by simp) #[.int .u32 6] rfl
  have hfl := (Fwd.refl w27).alloc (.cells #[.int .u32 6] 33)
  replace hbig := hbig.fwd hfl
  replace h1 := h1.fwd hfl
  replace hF := hF.trans hfl
  clear hfl
  go_wp2_with fail
  refine (same_true h1 l1 (nlb _ _ (by omega) (by decide)) (nlb _ _ (by omega) (by decide)) (by decide)).mono ?_
  rintro e w28 ⟨rfl, hf28⟩
  replace hbig := hbig.fwd hf28
  replace h1 := h1.fwd hf28
  replace l1 := l1.fwd hf28
  replace hF := hF.trans hf28
  clear hf28
  clear h1 l1
  have l1 := num_lit2 w28 (w28.heap.size) [9] 9 (by decide +kernel) 1 rfl (by omega) (by simp) #[.int .u32 9] rfl
  have hfl := (Fwd.refl w28).alloc (.cells #[.int .u32 9] 33)
  replace hbig := hbig.fwd hfl
  replace hF := hF.trans hfl
  clear hfl
  go_wp2_with fail
  refine (gcd_any (num_nil _) l1 (by rw [nl_zero]; omega) (nlb _ _ (by omega) (by decide))).mono ?_
  rintro e w29 ⟨v1, rfl, h1, hf29⟩
  replace hbig := hbig.fwd hf29
  replace l1 := l1.fwd hf29
  replace hF := hF.trans hf29
  clear hf29
  clear l1
  rw [Nat.gcd_zero_left] at h1
  have l1 := num_lit2 w29 (w29.heap.size) [9] 9 (by decide +kernel) 1 rfl (by omega) (by simp) #[.int .u32 9] rfl
  have hfl := (Fwd.refl w29).alloc (.cells #[.int .u32 9] 33)
  replace hbig := hbig.fwd hfl
  replace h1 := h1.fwd hfl
  replace hF := hF.trans hfl
  clear hfl
  go_wp2_with fail
  refine (same_true h1 l1 (nlb _ _ (by omega) (by decide)) (nlb _ _ (by omega) (by decide)) (by decide)).mono ?_
  rintro e w30 ⟨rfl, hf30⟩
  replace hbig := hbig.fwd hf30
  replace h1 := h1.fwd hf30
  replace l1 := l1.fwd hf30
  replace hF := hF.trans hf30
  clear hf30
  clear h1 l1
  go_wp2_with fail
  refine (gcd_any (num_nil _) (num_nil _) (by rw [nl_zero]; omega) (by rw [nl_zero]; omega)).mono ?_
  rintro e w31 ⟨v1, rfl, h1, hf31⟩
  replace hbig := hbig.fwd hf31
  replace hF := hF.trans hf31
  clear hf31
  rw [Nat.gcd_zero_left] at h1
  obtain ⟨yo2, yc2, rfl, hyc, hym, hycell⟩ := h1.parts
  unfold maxLen at hym
  rw [hz0]
  clear hycell h1 hyc hym
  have l1 := num_lit2 w31 (w31.heap.size) [4294967295] 4294967295 (by decide +kernel) 1 rfl (by omega) (by simp) #[.int .u32 4294967295] rfl
  have hfl := (Fwd.refl w31).alloc (.cells #[.int .u32 4294967295] 33)
  replace hbig := hbig.fwd hfl
  replace hF := hF.trans hfl
  clear hfl
  have l2 := num_lit2 (w31.alloc (.cells #[.int .u32 4294967295] 33)) (w31.heap.size + 1) [4294967295] 4294967295 (by decide +kernel) 1 rfl (by omega) (by simp) #[.int .u32 4294967295] rfl
  have hfl := (Fwd.refl (w31.alloc (.cells #[.int .u32 4294967295] 33))).alloc (.cells #[.int .u32 4294967295] 33)
  replace hbig := hbig.fwd hfl
  replace l1 := l1.fwd hfl
  replace hF := hF.trans hfl
  clear hfl
  go_wp2_with fail
  refine (mul_any l1 l2 (nlb _ _ (by omega) (by decide)) (nlb _ _ (by omega) (by decide))).mono ?_
  rintro e w32 ⟨v1, rfl, h1, hf32⟩
  replace hbig := hbig.fwd hf32
  replace l1 := l1.fwd hf32
  replace l2 := l2.fwd hf32
  replace hF := hF.trans hf32
  clear hf32
  clear l1 l2
  have l1 := num_lit2 w32 (w32.heap.size) [1, 4294967294] 18446744065119617025 (by decide +kernel) 2 rfl (by omega) (by simp) #[.int .u32 1, .int .u32 4294967294] rfl
  have hfl := (Fwd.refl w32).alloc (.cells #[.int .u32 1, .int .u32 4294967294] 33)
  replace hbig := hbig.fwd hfl
  replace h1 := h1.fwd hfl
  replace hF := hF.trans hfl
  clear hfl
  go_wp2_with fail
  refine (same_true h1 l1 (nlb _ _ (by omega) (by decide)) (nlb _ _ (by omega) (by decide)) (by decide)).mono ?_
  rintro e w33 ⟨rfl, hf33⟩
  replace hbig := hbig.fwd hf33
  replace h1 := h1.fwd hf33
  replace l1 := l1.fwd hf33
  replace hF := hF.trans hf33
  clear hf33
  clear h1 l1
  have l1 := num_lit2 w33 (w33.heap.size) [4294967295] 4294967295 (by decide +kernel) 1 rfl (by omega) (by simp) #[.int .u32 4294967295] rfl
  have hfl := (Fwd.refl w33).alloc (.cells #[.int .u32 4294967295] 33)
  replace hbig := hbig.fwd hfl
  replace hF := hF.trans hfl
  clear hfl
  have l2 := num_lit2 (w33.alloc (.cells #[.int .u32 4294967295] 33)) (w33.heap.size + 1) [1] 1 (by decide +kernel) 1 rfl (by omega) (by simp) #[.int .u32 1] rfl
  have hfl := (Fwd.refl (w33.alloc (.cells #[.int .u32 4294967295] 33))).alloc (.cells #[.int .u32 1] 33)
  replace hbig := hbig.fwd hfl
  replace l1 := l1.fwd hfl
  replace hF := hF.trans hfl
  clear hfl
  go_wp2_with fail
  refine (add_any l1 l2 (nlb _ _ (by omega) (by decide)) (nlb _ _ (by omega) (by decide))).mono ?_
  rintro e w34 ⟨v1, rfl, h1, hf34⟩
  replace hbig := hbig.fwd hf34
  replace l1 := l1.fwd hf34
  replace l2 := l2.fwd hf34
  replace hF := hF.trans hf34
  clear hf34
  clear l1 l2
  have l1 := num_lit2 w34 (w34.heap.size) [0, 1] 4294967296 (by decide +kernel) 2 rfl (by omega) (by simp) #[.int .u32 0, .int .u32 1] rfl
  have hfl := (Fwd.refl w34).alloc (.cells #[.int .u32 0, .int .u32 1] 33)
  replace hbig := hbig.fwd hfl
  replace h1 := h1.fwd hfl
  replace hF := hF.trans hfl
  clear hfl
  go_wp2_with fail
  refine (same_true h1 l1 (nlb _ _ (by omega) (by decide)) (nlb _ _ (by omega) (by decide)) (by decide)).mono ?_
  rintro e w35 ⟨rfl, hf35⟩
  replace hbig := hbig.fwd hf35
  replace h1 := h1.fwd hf35
  replace l1 := l1.fwd hf35
  replace hF := hF.trans hf35
  clear hf35
  clear h1 l1 hbig
  have hrow := BlkV.made w35 4 (List.replicate 12 (.bool true))
  replace hF := hF.alloc (.cells (List.replicate 12 (Value.bool true)).toArray 4)
  have HROW := hid hrow
  have HFF := hid hF
  clear hrow hF
  go_wp2_with fail
  refine (within_any _ which 12 (by omega) (by omega) hw1 hw2).mono ?_
  rintro e wr1 ⟨I, hI, rfl, rfl⟩
  have hcell := HROW.out.cell I (v := .bool true) (by rw [List.getElem?_replicate, if_pos hI])
  simp only [List.replicate] at hcell
  have hI2 : (I : Int) < 12 := by omega
  go_wp2
  go_ret
  exact ⟨rfl, HFF.out⟩

end Go.Proofs.YtbkphjmhmfgpgabDoor
